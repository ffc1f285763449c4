/- Whatever stood apart from the ball at first stands apart from where it comes to, but for 4 grains: for all raw shots. -/
import Derived.Test.YtablgiflakncfaaGreatBBW12
import Derived.Test.YtablgiflakncfaaGreatBBW11
import Derived.Test.YtablgiflakncfaaGreatBBW0
import Derived.Test.YtablgiflakncfaaGreatProg
import Derived.WalkKit
import Derived.Orders
import Derived.Below
import Derived.Laws.Rows
import Derived.Test.YtablgiflakncfaaGreatBBW10
import Derived.Test.YtablgiflakncfaaGreatBBW5
import Derived.Test.YtablgiflakncfaaGreatEHHolds0
import Derived.Test.YtablgiflakncfaaGreatBBW4
import Derived.Test.YtablgiflakncfaaGreatBBW3
import Derived.Test.YtablgiflakncfaaGreatBBW2
import Derived.Test.YtablgiflakncfaaGreatBBW1
import Derived.RangeFuncNested
import Derived.RangeFuncBound
import Derived.RangeFuncCalls
import Derived.RangeFuncLeaves
import Derived.RangeFuncBox
import Derived.Shelf.Abstract
import Derived.OwnWalkIn
import Derived.TacticsInMore
import Derived.LoopNIn
import Derived.LoopIn
import Derived.LoopTactic
import Derived.ProofKit
import Derived.Handy
import Derived.Laws.MakeOwn
import Derived.Laws.OwnMore
import Derived.Maps.AppendAt
import Derived.Deep.RegionWith
import Derived.Deep.QuietTactic
import Derived.BigQuiet
import Derived.Deep.CutBlock
import Derived.Deep.CutRange
import Derived.Deep.LoopGhost
import Derived.Lib.SmallJoins
import Derived.RowKit
import Derived.Scope
import Derived.OrdersIn
import Derived.Sort.CutIn
import Derived.Test.YtablgiflakncfaaGreatBBW9
import Derived.Test.YtablgiflakncfaaGreatBBW6
import Derived.OneCell
import Derived.WalkMore
import Derived.Lib.BufferMore
import Derived.Test.YtablgiflakncfaaGreatBBW8
import Derived.Test.YtablgiflakncfaaGreatBBW7
import Derived.Laws.MathBits
import Derived.Laws.Externs
import Derived.Laws.BitsAllLaws
import Derived.WalkLawsBesides
import Derived.Lib.AppendZeros
import Derived.Deep.MidRow
import Derived.Test.YtablgiflakncfaaGreatBBW25
import Derived.Test.YtablgiflakncfaaGreatBBW23
import Derived.Test.YtablgiflakncfaaGreatBBW22
import Derived.Test.YtablgiflakncfaaGreatBBW17
import Derived.Test.YtablgiflakncfaaGreatBBW14
import Derived.Test.YtablgiflakncfaaGreatBBW13
import Derived.Test.YtablgiflakncfaaGreatBBW16
import Derived.Test.YtablgiflakncfaaGreatBBW15
import Derived.Deep.RegionHeld3
import Derived.Test.YtablgiflakncfaaGreatBBW19
import Derived.Test.YtablgiflakncfaaGreatBBW18
import Derived.Test.YtablgiflakncfaaGreatBBW21
import Derived.Test.YtablgiflakncfaaGreatBBW20
import Derived.Deep.Onto
import Derived.Test.YtablgiflakncfaaGreatBBW24
import Derived.OpenShut
import Derived.Deep.Slices
import Derived.Test.YtablgiflakncfaaGreatEHHolds1
import Derived.Test.YtablgiflakncfaaGreatRows
set_option maxHeartbeats 32000000
set_option maxRecDepth 100000
set_option linter.unusedVariables false
namespace Go.Proofs.YtablgiflakncfaaGreat
section
namespace ccdHolds
open Go.ChangeShapes Go.WideShapes Go.ChangeAt Go.RowKit Go.Shelf
theorem own:ownKnob Tryz.prog.godebug = none:=by kernel_rfl
theorem laidOut:laidOutB Tryz.prog = true:=by kernel_rfl
theorem walk (fv yv:V3) (rr:Int) (oa:Option Addr) (RR:List Rw) (ca:Nat) (ob:Option Addr) (SS:List Pw) (cb:Nat) (w0:World) (hR:LiesR w0 (.slice oa RR.length ca) RR) (oR:∀ q ∈ RR,q.ok) (hS:LiesP w0 (.slice ob SS.length cb) SS) (oS:∀ q ∈ SS,q.ok) (bds:(I64 fv.x/\I64 fv.y/\I64 fv.z)/\(I64 yv.x/\I64 yv.y/\I64 yv.z)/\I64 rr) :
  Calls Tryz.prog 5 #[.agg #[.int .i64 fv.x,.int .i64 fv.y,.int .i64 fv.z,.int .i64 yv.x,.int .i64 yv.y,.int .i64 yv.z,.int .i64 rr,.slice oa RR.length ca,.slice ob SS.length cb]] w0 fun e w'=>e = .returned (.bool true)/\Below w0.heap.size w0 w':=by
 have AWK:Hid _:=fun W=>hawake_any W
 have MD:Hid _:=fun w' (h:Below w0.heap.size w0 w')=>made_any fv yv rr RR SS oa ca ob cb w' (hR.below h) oR (hS.below h) oS bds
 clear hR oR hS oS bds
 obtain ⟨A1,hA1⟩:∃ V,V = w0.alloc (.cells #[.int .i64 fv.x,.int .i64 fv.y,.int .i64 fv.z,.int .i64 yv.x,.int .i64 yv.y,.int .i64 yv.z,.int .i64 rr,.slice oa RR.length ca,.slice ob SS.length cb] 41):=⟨_,rfl⟩
 obtain ⟨sb,hsb⟩:∃ b,b = w0.heap.size:=⟨_,rfl⟩
 have CS:Hid (CW A1 sb [.int .i64 fv.x,.int .i64 fv.y,.int .i64 fv.z,.int .i64 yv.x,.int .i64 yv.y,.int .i64 yv.z,.int .i64 rr,.slice oa RR.length ca,.slice ob SS.length cb]):=by show CW _ _ _;rw [hA1,hsb];exact CW.new w0 [.int .i64 fv.x,.int .i64 fv.y,.int .i64 fv.z,.int .i64 yv.x,.int .i64 yv.y,.int .i64 yv.z,.int .i64 rr,.slice oa RR.length ca,.slice ob SS.length cb] 41
 have HB:Hid (Below w0.heap.size w0 A1):=by show Below _ _ _;rw [hA1];exact n_after _ _
 go_enter Tryz.func5,Tryz.ntmps5
 go_upto_region 1 with fail
 rw [<- hA1,<- hsb]
 clear hA1 hsb
 go_wp2_with (fail)
 refine Calls.mono (AWK.out _) ?_
 rintro e V1 ⟨rfl,hb⟩
 have HB:Hid (Below w0.heap.size w0 V1):=b_step HB.out hb
 have CS:Hid (CW _ _ _):=CS.out.step hb
 clear hb AWK
 have x0:=(CS.out 0 _ rfl).1
 have x1:=(CS.out 1 _ rfl).1
 have x2:=(CS.out 2 _ rfl).1
 have x3:=(CS.out 3 _ rfl).1
 have x4:=(CS.out 4 _ rfl).1
 have x5:=(CS.out 5 _ rfl).1
 have x6:=(CS.out 6 _ rfl).1
 have x7:=(CS.out 7 _ rfl).1
 have x8:=(CS.out 8 _ rfl).1
 go_wp2_with (fail)
 refine Calls.mono (MD.out _ HB.out) ?_
 rintro e V2 ⟨⟨gx,gy,gz⟩,⟨tx,ty,tz⟩,r,u,K,rfl,HK,hok,hl3,hg,ht,hr,hb⟩
 have hLC:=HK.out.liesC
 have hokL:∀ c ∈ K.map CoK.c,okC c:=fun c hc=>by obtain ⟨k,hk,rfl⟩:=List.mem_map.1 hc;exact hok k hk
 have hl3L:(K.map CoK.c).length <= 3:=by rw [List.length_map];exact hl3
 clear HK hok hl3
 generalize K.map CoK.c = L at *
 obtain ⟨uo,uc,rfl,huc,hum,_⟩:=hLC.form
 have HUC:Hid (L.length <= uc/\uc <= 9223372036854775807):=⟨huc,hum⟩
 have HOK:Hid _:=hokL
 have HL3:Hid _:=hl3L
 have HG42:Hid _:=hg
 have HN38:Hid _:=ht
 have HRB:Hid _:=hr
 have HB:Hid (Below w0.heap.size w0 V2):=b_step HB.out hb
 have CS:Hid (CW _ _ _):=CS.out.step hb
 have CS2:Hid (CW V2 _ _):=CS.out
 obtain ⟨V,hV⟩:∃ V,V = (V2.alloc (.cells #[.int .i64 gx,.int .i64 gy,.int .i64 gz] 23)).alloc (.cells #[.int .i64 tx,.int .i64 ty,.int .i64 tz] 23):=⟨_,rfl⟩
 obtain ⟨gb,hgb⟩:∃ b,b = V2.heap.size:=⟨_,rfl⟩
 obtain ⟨tb,htb⟩:∃ b,b = V2.heap.size + 1:=⟨_,rfl⟩
 have k1:=n_after V2 (.cells #[.int .i64 gx,.int .i64 gy,.int .i64 gz] 23)
 have k2:=n_after (V2.alloc (.cells #[.int .i64 gx,.int .i64 gy,.int .i64 gz] 23)) (.cells #[.int .i64 tx,.int .i64 ty,.int .i64 tz] 23)
 have c1:=(CW.new V2 [.int .i64 gx,.int .i64 gy,.int .i64 gz] 23).step k2
 have c2:=CW.new (V2.alloc (.cells #[.int .i64 gx,.int .i64 gy,.int .i64 gz] 23)) [.int .i64 tx,.int .i64 ty,.int .i64 tz] 23
 rw [World.size_alloc,<- htb] at c2
 rw [<- hgb] at c1
 rw [<- hV] at c1 c2
 have CG:Hid (CW V gb [.int .i64 gx,.int .i64 gy,.int .i64 gz]):=c1
 have CT:Hid (CW V tb [.int .i64 tx,.int .i64 ty,.int .i64 tz]):=c2
 have hbv:Below V2.heap.size V2 V:=by rw [hV];exact b_step k1 k2
 have HB:Hid (Below w0.heap.size w0 V):=b_step HB.out hbv
 have CS:Hid (CW _ _ _):=CS.out.step hbv
 have HLC:Hid (LiesC V (.slice uo L.length uc) L):=hLC.below hbv
 have hgt:gb ≠ tb:=by omega
 have HGT:Hid _:=hgt
 have hsg:sb < V2.heap.size:=CW.lt CS2.out
 have HSG:Hid (sb ≠ gb/\sb ≠ tb):=by show _/\_;omega
 clear CS2 k1 k2 c1 c2 hbv hb MD hgt hsg hg ht hr hokL hl3L huc hum hLC x0 x1 x2 x3 x4 x5 x6 x7 x8
 go_upto_region 3 with fail
 rw [<- hV,<- htb,<- hgb]
 clear hV htb hgb
 obtain ⟨X,hX⟩:∃ X,X = V.alloc (.cells #[.bool false] 31):=⟨_,rfl⟩
 obtain ⟨fb,hfb⟩:∃ b,b = V.heap.size:=⟨_,rfl⟩
 have HFB:Hid (V.heap.size <= fb):=by show _ <= _;omega
 have hcf:CW X fb [.bool false]:=by rw [hX,hfb];exact CW.new V [.bool false] 31
 have HBV:Hid (Below V.heap.size V X):=by show Below _ _ _;rw [hX];exact n_after _ _
 have HFL:Hid (After ⟨fb,0,none⟩ false X X):=(Leaves.refl _ _).done (hcf 0 _ rfl).1 (hcf 0 _ rfl).2
 have hl1:=CW.lt CG.out
 have hl2:=CW.lt CT.out
 have hl4:=CW.lt CS.out
 have HNE:Hid (gb ≠ fb/\tb ≠ fb/\sb ≠ fb):=by show _/\_/\_;omega
 clear hcf hl1 hl2 hl4
 go_upto_region 4 with fail
 rw [<- hX,<- hfb]
 clear hX hfb
 have HH:Hid (∀ (M:List Cr) (lv:Value) (fl:Bool) (w':World),LiesC w' lv M->w'.cell? ⟨fb,0,none⟩ = some (.bool fl)->w'.frozen? ⟨fb,0,none⟩ = false->Calls Tryz.prog 10 #[.pointer (some ⟨fb,0,none⟩),.agg #[.int .i64 gx,.int .i64 gy,.int .i64 gz],.agg #[.int .i64 tx,.int .i64 ty,.int .i64 tz],.int .i64 r,lv] w' fun e W'=>e = .returned (.tuple #[(holdV (⟨gx,gy,gz⟩:V3) (⟨tx,ty,tz⟩:V3) r M).1.val,.int .i64 ((hK (⟨gx,gy,gz⟩:V3) (⟨tx,ty,tz⟩:V3) r M:Nat):Int)])/\Hid (After ⟨fb,0,none⟩ (fl || false) w' W')):=fun M lv fl w' h1 h2 h3=>by
  have i1:(⟨gx,gy,gz⟩:V3).in45/\(⟨tx,ty,tz⟩:V3).in45:=by have a:=HG42.out;have b:=HN38.out;unfold V3.m42 at a;unfold V3.n38 at b;unfold V3.in45;dsimp only at *;omega
  obtain ⟨a1,a2⟩:=hold_small r M i1.1 i1.2
  have h9:=hold_any (⟨gx,gy,gz⟩:V3) (⟨tx,ty,tz⟩:V3) r M lv fb fl w' h1 h2 h3 (by have:=i1.1;unfold V3.in45 at this;unfold V3.i64;dsimp only at *;omega) (by have:=i1.2;unfold V3.in45 at this;unfold V3.i64;dsimp only at *;omega)
  rw [a2] at h9
  have e9:(holdV (⟨gx,gy,gz⟩:V3) (⟨tx,ty,tz⟩:V3) r M).2 = hK (⟨gx,gy,gz⟩:V3) (⟨tx,ty,tz⟩:V3) r M:=by rw [a1]
  rw [e9] at h9
  exact h9
 have i1:(⟨gx,gy,gz⟩:V3).in45/\(⟨tx,ty,tz⟩:V3).in45:=by have a:=HG42.out;have b:=HN38.out;unfold V3.m42 at a;unfold V3.n38 at b;unfold V3.in45;dsimp only at *;omega
 have hsm:=(hold_small r L i1.1 i1.2).1
 have hin:=hold_in (g:=(⟨gx,gy,gz⟩:V3)) (t:=(⟨tx,ty,tz⟩:V3)) (r:=r) (L:=L) HG42.out HN38.out
 have h16:hK (⟨gx,gy,gz⟩:V3) (⟨tx,ty,tz⟩:V3) r L <= 16:=hold_le _ _ _ _
 have HCL:=HH.out L (.slice uo L.length uc) false
 obtain ⟨⟨ax,ay,az⟩,hat⟩:∃ v,(holdV (⟨gx,gy,gz⟩:V3) (⟨tx,ty,tz⟩:V3) r L).1 = v:=⟨_,rfl⟩
 rw [hat] at HCL hin
 have hat2:(⟨ax,ay,az⟩:V3) = if hK (⟨gx,gy,gz⟩:V3) (⟨tx,ty,tz⟩:V3) r L = 16 then (⟨tx,ty,tz⟩:V3) else ⟨gx + (tx - gx) * (hK (⟨gx,gy,gz⟩:V3) (⟨tx,ty,tz⟩:V3) r L:Nat) / 16,gy + (ty - gy) * (hK (⟨gx,gy,gz⟩:V3) (⟨tx,ty,tz⟩:V3) r L:Nat) / 16,gz + (tz - gz) * (hK (⟨gx,gy,gz⟩:V3) (⟨tx,ty,tz⟩:V3) r L:Nat) / 16⟩:=by rw [<- hat,hsm]
 have HKD:Hid (holdK (ballC (⟨gx,gy,gz⟩:V3) r) (wayZ (⟨gx,gy,gz⟩:V3) (⟨tx,ty,tz⟩:V3)) L L.length = hK (⟨gx,gy,gz⟩:V3) (⟨tx,ty,tz⟩:V3) r L):=rfl
 generalize hK (⟨gx,gy,gz⟩:V3) (⟨tx,ty,tz⟩:V3) r L = kN at *
 have HAT1:Hid (kN = 16->(⟨ax,ay,az⟩:V3) = (⟨tx,ty,tz⟩:V3)):=fun h=>by rw [hat2,if_pos h]
 have HAT2:Hid (kN ≠ 16->(⟨ax,ay,az⟩:V3) = ⟨gx + (tx - gx) * (kN:Nat) / 16,gy + (ty - gy) * (kN:Nat) / 16,gz + (tz - gz) * (kN:Nat) / 16⟩):=fun h=>by rw [hat2,if_neg h]
 have HATI:Hid _:=hin
 have H16:Hid _:=h16
 have HC1:Hid _:=HCL
 have HW1:Hid _:=fun w'=>rway_ok (f:=(⟨gx,gy,gz⟩:V3)) (t:=(⟨tx,ty,tz⟩:V3)) (V3.m42.wide (v:=(⟨gx,gy,gz⟩:V3)) HG42.out) HN38.out HRB.out w'
 have HW2:Hid _:=fun w'=>rway_ok (f:=⟨ax,ay,az⟩) (t:=(⟨tx,ty,tz⟩:V3)) hin.1 hin.2 HRB.out w'
 dsimp only [V3.val] at HC1 HW1 HW2
 have hbm:=(shot_cast (g:=(⟨gx,gy,gz⟩:V3)) (t:=(⟨tx,ty,tz⟩:V3)) (V3.m42.wide (v:=(⟨gx,gy,gz⟩:V3)) HG42.out) HN38.out HRB.out (show mayC ⟨[⟨0,0,0⟩],[],[],0⟩ = true by decide)).2
 have HFC:Hid (∀ i,i < L.length->okC (cr L i)/\castB (ballC (⟨gx,gy,gz⟩:V3) r) (wayZ (⟨gx,gy,gz⟩:V3) (⟨tx,ty,tz⟩:V3)) (cr L i) = true/\apP (ballC (⟨gx,gy,gz⟩:V3) r) (cr L i) = told (ballC (⟨gx,gy,gz⟩:V3) r) (cr L i)):=fun i hi=>by
  have hok:okC (cr L i):=by unfold cr;rw [List.getElem?_eq_getElem hi];exact HOK.out _ (List.getElem_mem hi)
  refine ⟨hok,(shot_cast (g:=(⟨gx,gy,gz⟩:V3)) (t:=(⟨tx,ty,tz⟩:V3)) (V3.m42.wide (v:=(⟨gx,gy,gz⟩:V3)) HG42.out) HN38.out HRB.out hok.1.1.1).1,?_⟩
  unfold apP
  rw [hbm,hok.1.1.1]
  rfl
 have HNM:Hid (∀ (c:Cr),okC c->holdP (ballC (⟨gx,gy,gz⟩:V3) r) (wayZ (⟨gx,gy,gz⟩:V3) (⟨tx,ty,tz⟩:V3)) c = true->kN <= (castR (ballC (⟨gx,gy,gz⟩:V3) r) (wayZ (⟨gx,gy,gz⟩:V3) (⟨tx,ty,tz⟩:V3)) c).1->_):=fun c hok hp hk=>hold_nums (f:=(⟨gx,gy,gz⟩:V3)) (t:=(⟨tx,ty,tz⟩:V3)) (e:=⟨ax,ay,az⟩) (V3.m42.wide (v:=(⟨gx,gy,gz⟩:V3)) HG42.out) HN38.out hin.1 HRB.out hok.1.1 hok.1.2 hp hk HAT1.out HAT2.out
 have HBM:Hid _:=hbm
 have hgf:(ballC (⟨gx,gy,gz⟩:V3) r).P = [grn (⟨gx,gy,gz⟩:V3)]:=rfl
 have hbr:(ballC (⟨gx,gy,gz⟩:V3) r).r = r:=rfl
 have hba:(ballC (⟨gx,gy,gz⟩:V3) r).A = []:=rfl
 have hbe:(ballC (⟨gx,gy,gz⟩:V3) r).E = []:=rfl
 have HBCE:Hid ((ballC (⟨gx,gy,gz⟩:V3) r).P = [grn (⟨gx,gy,gz⟩:V3)]/\(ballC (⟨gx,gy,gz⟩:V3) r).r = r/\(ballC (⟨gx,gy,gz⟩:V3) r).A = []/\(ballC (⟨gx,gy,gz⟩:V3) r).E = []):=⟨hgf,hbr,hba,hbe⟩
 clear i1 hsm hin h16 HCL hat hat2 hbm hgf hbr hba hbe HH HG42 HN38 CS HGT HSG HOK HL3
 generalize ballC (⟨gx,gy,gz⟩:V3) r = BC at *
 obtain ⟨⟨wx,wq,wz⟩,hwy⟩:∃ p,wayZ (⟨gx,gy,gz⟩:V3) (⟨tx,ty,tz⟩:V3) = p:=⟨_,rfl⟩
 rw [hwy] at HW1 HFC HNM HKD
 clear hwy
 obtain ⟨⟨vx,vq,vz⟩,hwy⟩:∃ p,wayZ ⟨ax,ay,az⟩ (⟨tx,ty,tz⟩:V3) = p:=⟨_,rfl⟩
 rw [hwy] at HW2
 clear hwy
 obtain ⟨⟨fx,fy,fz⟩,hgr⟩:∃ p,grn (⟨gx,gy,gz⟩:V3) = p:=⟨_,rfl⟩
 rw [hgr] at HW1 HBCE
 clear hgr
 obtain ⟨⟨ex,ey,ez⟩,hgr⟩:∃ p,grn ⟨ax,ay,az⟩ = p:=⟨_,rfl⟩
 have HEB:Hid (Pt.inB ⟨ex,ey,ez⟩ 1152921504606846976 = true):=by show _ = _;rw [<- hgr,Pt.inB_iff];have:=HATI.out.1;unfold V3.m43 at this;unfold grn;dsimp only at *;omega
 have HEB2:Hid (Pt.inB ⟨ex,ey,ez⟩ 16777216 = true):=by show _ = _;rw [<- hgr,Pt.inB_iff];have:=HATI.out.1;unfold V3.m43 at this;unfold grn;dsimp only at *;omega
 rw [hgr] at HW2 HNM
 clear hgr HATI
 have fc:=HFL.out.cell
 have ff:=HFL.out.frozen
 have HC1:Hid _:=HC1.out X (HLC.out.below HBV.out) fc ff
 clear fc ff
 have q0g:=(CG.out.step HBV.out 0 _ rfl).1
 have q1g:=(CG.out.step HBV.out 1 _ rfl).1
 have q2g:=(CG.out.step HBV.out 2 _ rfl).1
 have q0t:=(CT.out.step HBV.out 0 _ rfl).1
 have q1t:=(CT.out.step HBV.out 1 _ rfl).1
 have q2t:=(CT.out.step HBV.out 2 _ rfl).1
 go_wp2_with (fail)
 refine Calls.mono HC1.out ?_
 rintro e W1 ⟨rfl,HA⟩
 have HFL:Hid (After ⟨fb,0,none⟩ false X W1):=by have h9:=HFL.out.trans HA.out;exact h9
 have HBV:Hid (Below V.heap.size V W1):=HFL.out.on HBV.out HFB.out
 clear HA HC1 q0g q0t q1g q1t q2g q2t
 obtain ⟨W2,hW2⟩:∃ X,X = W1.alloc (.cells #[.int .i64 ax,.int .i64 ay,.int .i64 az] 23):=⟨_,rfl⟩
 obtain ⟨ab,hab⟩:∃ x,x = W1.heap.size:=⟨_,rfl⟩
 have kb:Below W1.heap.size W1 W2:=by rw [hW2];exact n_after _ _
 have CA:Hid (CW W2 ab [.int .i64 ax,.int .i64 ay,.int .i64 az]):=by show CW _ _ _;rw [hW2,hab];exact CW.new W1 [.int .i64 ax,.int .i64 ay,.int .i64 az] 23
 have HB2:Hid (Below V.heap.size V W2):=b_step HBV.out kb
 have fc:=c_after kb HFL.out.cell
 clear kb HBV HFL
 go_upto_region 5 with fail
 rw [<- hW2,<- hab]
 clear hW2 hab
 have q0g:=(CG.out.step HB2.out 0 _ rfl).1
 have q1g:=(CG.out.step HB2.out 1 _ rfl).1
 have q2g:=(CG.out.step HB2.out 2 _ rfl).1
 have q0t:=(CT.out.step HB2.out 0 _ rfl).1
 have q1t:=(CT.out.step HB2.out 1 _ rfl).1
 have q2t:=(CT.out.step HB2.out 2 _ rfl).1
 go_wp2_with (fail)
 refine Calls.mono (HW1.out _) ?_
 rintro e W3 ⟨s1,rfl,HZ⟩
 obtain ⟨W4a,hW4a⟩:∃ X,X = W3.alloc (.cells #[.slice (some ⟨s1,0,none⟩) 1 1,.slice none 0 0,.slice none 0 0,.int .i64 r] 28):=⟨_,rfl⟩
 obtain ⟨cb1,hcb1⟩:∃ x,x = W3.heap.size:=⟨_,rfl⟩
 have kb:Below W3.heap.size W3 W4a:=by rw [hW4a];exact n_after _ _
 have CB1:Hid (CW W4a cb1 [.slice (some ⟨s1,0,none⟩) 1 1,.slice none 0 0,.slice none 0 0,.int .i64 r]):=by show CW _ _ _;rw [hW4a,hcb1];exact CW.new W3 [.slice (some ⟨s1,0,none⟩) 1 1,.slice none 0 0,.slice none 0 0,.int .i64 r] 28
 have kb1:=kb
 obtain ⟨W4,hW4⟩:∃ X,X = W4a.alloc (.cells #[.int .i64 wx,.int .i64 wq,.int .i64 wz] 45):=⟨_,rfl⟩
 obtain ⟨yb1,hyb1⟩:∃ x,x = W3.heap.size + 1:=⟨_,rfl⟩
 have kb:Below W4a.heap.size W4a W4:=by rw [hW4];exact n_after _ _
 have CY1:Hid (CW W4 yb1 [.int .i64 wx,.int .i64 wq,.int .i64 wz]):=by show CW _ _ _;rw [hW4,hyb1];have hz:W4a.heap.size = W3.heap.size + 1:=(by rw [hW4a,World.size_alloc]);rw [<- hz];exact CW.new W4a [.int .i64 wx,.int .i64 wq,.int .i64 wz] 45
 have kb2:=b_step HZ.out.2 (b_step kb1 kb)
 have CB1:Hid (CW _ _ _):=CB1.out.step kb
 have LS1:Hid (Lies W4 (.slice (some ⟨s1,0,none⟩) 1 1) [⟨fx,fy,fz⟩]):=HZ.out.1.below (b_step kb1 kb)
 have HB4:Hid (Below V.heap.size V W4):=b_step HB2.out kb2
 have CA:Hid (CW _ _ _):=CA.out.step kb2
 have fc:=c_after kb2 fc
 clear kb kb1 kb2 HZ HW1 HB2 q0g q0t q1g q1t q2g q2t
 have hk1:¬ ((kN:Nat):Int) < 0:=by omega
 have hk2:¬ (16:Int) < ((kN:Nat):Int):=by have:=H16.out;omega
 go_upto_region 6 with fail
 rw [<- hyb1,<- hcb1,<- hW4a,<- hW4]
 clear hW4a hcb1 hW4 hyb1
 go_upto_region 8 with fail
 clear hk1 hk2 fc
 have q0t:=(CT.out.step HB4.out 0 _ rfl).1
 have q0a:=(CA.out 0 _ rfl).1
 have q1t:=(CT.out.step HB4.out 1 _ rfl).1
 have q1a:=(CA.out 1 _ rfl).1
 have q2t:=(CT.out.step HB4.out 2 _ rfl).1
 have q2a:=(CA.out 2 _ rfl).1
 go_wp2_with (fail)
 refine Calls.mono (HW2.out _) ?_
 rintro e W5 ⟨s2,rfl,HZ⟩
 obtain ⟨W6a,hW6a⟩:∃ X,X = W5.alloc (.cells #[.slice (some ⟨s2,0,none⟩) 1 1,.slice none 0 0,.slice none 0 0,.int .i64 r] 28):=⟨_,rfl⟩
 obtain ⟨cb2,hcb2⟩:∃ x,x = W5.heap.size:=⟨_,rfl⟩
 have kb:Below W5.heap.size W5 W6a:=by rw [hW6a];exact n_after _ _
 have CB2:Hid (CW W6a cb2 [.slice (some ⟨s2,0,none⟩) 1 1,.slice none 0 0,.slice none 0 0,.int .i64 r]):=by show CW _ _ _;rw [hW6a,hcb2];exact CW.new W5 [.slice (some ⟨s2,0,none⟩) 1 1,.slice none 0 0,.slice none 0 0,.int .i64 r] 28
 have kb1:=kb
 obtain ⟨W6,hW6⟩:∃ X,X = W6a.alloc (.cells #[.int .i64 vx,.int .i64 vq,.int .i64 vz] 45):=⟨_,rfl⟩
 obtain ⟨yb2,hyb2⟩:∃ x,x = W5.heap.size + 1:=⟨_,rfl⟩
 have kb:Below W6a.heap.size W6a W6:=by rw [hW6];exact n_after _ _
 have CY2:Hid (CW W6 yb2 [.int .i64 vx,.int .i64 vq,.int .i64 vz]):=by show CW _ _ _;rw [hW6,hyb2];have hz:W6a.heap.size = W5.heap.size + 1:=(by rw [hW6a,World.size_alloc]);rw [<- hz];exact CW.new W6a [.int .i64 vx,.int .i64 vq,.int .i64 vz] 45
 have kb2:=b_step HZ.out.2 (b_step kb1 kb)
 have CB2:Hid (CW _ _ _):=CB2.out.step kb
 have LS2:Hid (Lies W6 (.slice (some ⟨s2,0,none⟩) 1 1) [⟨ex,ey,ez⟩]):=HZ.out.1.below (b_step kb1 kb)
 have HB6:Hid (Below V.heap.size V W6):=b_step HB4.out kb2
 have CA:Hid (CW _ _ _):=CA.out.step kb2
 have CB1:Hid (CW _ _ _):=CB1.out.step kb2
 have CY1:Hid (CW _ _ _):=CY1.out.step kb2
 have LS1:Hid _:=LS1.out.below kb2
 clear kb kb1 kb2 HZ HW2 HB4 CY2 q0t q0a q1t q1a q2t q2a
 go_upto_region 9 with fail
 rw [<- hyb2,<- hcb2,<- hW6a,<- hW6]
 clear hW6a hcb2 hW6 hyb2
 go_wp2_with (fail)
 go_loopg [17,18] L.length (fun gm s17 s18 wr=>∃ (i:Nat) (bq:Bool),s17 = .bool bq/\s18 = .int .i64 (i:Int)/\i <= L.length/\Hid (gm = L.length - i)/\Hid (Below W6.heap.size W6 wr)/\Hid (bq = true ↔ ∀ j,j < i->holdP BC ⟨wx,wq,wz⟩ (cr L j) = true->(castR BC ⟨wx,wq,wz⟩ (cr L j)).1 = 16))
 case atStart=>exact ⟨0,true,rfl,rfl,Nat.zero_le _,rfl,Below.refl _ _,⟨fun _ j hj=>absurd hj (Nat.not_lt_zero _),fun _=>rfl⟩⟩
 case round =>
  obtain ⟨i,bq,rfl,rfl,hi9,HG,HB9,HFR⟩:=hrel
  by_cases hit:i < L.length
  ·have hl1:(i:Int) < (L.length:Int):=by omega
   have hbW:=b_step HB6.out HB9.out
   obtain ⟨o',cap',e',_,_,hcl⟩:=(HLC.out.below hbW).form
   cases e'
   obtain ⟨lb,lo,qv,bv,fv,rfl,x0,x1,x2,x3,l1,l2,l3⟩:=hcl i hit
   obtain ⟨hok,hcb,hap⟩:=HFC.out i hit
   clear hcl hbW
   obtain ⟨c,hc⟩:∃ x,cr L i = x:=⟨_,rfl⟩
   rw [hc] at x3 l1 l2 l3 hok hcb hap
   have HCI:Hid _:=hc
   clear hc
   obtain ⟨o4,c4,rfl,_,_,hp4⟩:=l1.form
   obtain ⟨gc,fc,rfl,_⟩:=hp4 0 (may_facts hok.1.1.1).1
   obtain ⟨o5,c5,rfl,_⟩:=l2.form
   obtain ⟨o6,c6,rfl,_⟩:=l3.form
   clear hp4
   have HLP:Hid _:=l1
   have hhf:=hold_first hcb
   rw [hap] at hhf
   have HAPC:Hid _:=fun (w':World) (h:Below wr.heap.size wr w')=>happart_any BC c (.slice (some ⟨s1,0,none⟩) 1 1) (.slice none 0 0) (.slice none 0 0) _ _ _ w' HBM.out hok.1.1.1 (by rw [HBCE.out.1];exact (LS1.out.below HB9.out).below h) (by rw [HBCE.out.2.2.1];exact lies_nil9 _) (by rw [HBCE.out.2.2.2];exact lies_nil9 _) (l1.below h) (l2.below h) (l3.below h)
   have HCSC:Hid _:=fun (w':World) (h:Below wr.heap.size wr w')=>wcast_any BC ⟨wx,wq,wz⟩ c (.slice (some ⟨s1,0,none⟩) 1 1) (.slice none 0 0) (.slice none 0 0) _ _ _ w' (by rw [HBCE.out.1];exact (LS1.out.below HB9.out).below h) (by rw [HBCE.out.2.2.1];exact lies_nil9 _) (by rw [HBCE.out.2.2.2];exact lies_nil9 _) (l1.below h) (l2.below h) (l3.below h)
   rw [HBCE.out.2.1] at HAPC HCSC
   rw [hcb] at HCSC
   unfold coreA apV Pt.v at HCSC
   dsimp only at HCSC
   have HNX:Hid _:=HNM.out c hok
   have HMN:Hid (holdP BC ⟨wx,wq,wz⟩ c = true->kN <= (castR BC ⟨wx,wq,wz⟩ c).1):=fun h=>by
    rw [<- HKD.out,<- HCI.out]
    exact hold_min hit (by rw [HCI.out];exact h)
   have HOKC:Hid _:=hok
   obtain ⟨⟨⟨nx,ny,nz⟩,ng⟩,htd⟩:∃ x,told BC c = x:=⟨_,rfl⟩
   rw [htd] at HAPC hhf
   dsimp only at HAPC hhf
   have HHF:Hid _:=hhf
   obtain ⟨⟨mN,⟨⟨xx,xy,xz⟩,xg⟩⟩,hcr⟩:∃ x,castR BC ⟨wx,wq,wz⟩ c = x:=⟨_,rfl⟩
   rw [hcr] at HCSC HNX HMN
   dsimp only at HCSC HNX HMN
   have HCR:Hid (castR BC ⟨wx,wq,wz⟩ c = (mN,(⟨xx,xy,xz⟩,xg))):=hcr
   clear hok hcb hap hhf htd hcr l1 l2 l3
   have b0:=(CB1.out.step HB9.out 0 _ rfl).1
   have b1:=(CB1.out.step HB9.out 1 _ rfl).1
   have b2:=(CB1.out.step HB9.out 2 _ rfl).1
   have b3:=(CB1.out.step HB9.out 3 _ rfl).1
   go_upto_region 13 with fail
   refine RV.rs [.some (.agg #[.slice (some ⟨s1,0,none⟩) 1 1,.slice none 0 0,.slice none 0 0,.int .i64 r]),.some (.slice (some ⟨lb,lo,none⟩) L.length uc),.some (.int .i64 ((i:Int))),.some (.pointer (some ⟨lb,lo + i * 4,none⟩)),.some (.agg #[.slice (some ⟨gc,fc,none⟩) c.P.length c4,.slice o5 c.A.length c5,.slice o6 c.E.length c6,.int .i64 c.r]),.some (.tuple #[.agg #[.int .i64 nx,.int .i64 ny,.int .i64 nz,.int .i64 ng],.bool true]),.some (.tuple #[.agg #[.int .i64 nx,.int .i64 ny,.int .i64 nz,.int .i64 ng],.bool true]),.some (.agg #[.int .i64 nx,.int .i64 ny,.int .i64 nz,.int .i64 ng]),.some (.bool (true)),none,none,.some (.bool (true))] [91,92,93,94,95,96,90,97,98,20,0,21] [(7,.slice (some ⟨lb,lo,none⟩) L.length uc),(11,.pointer (some ⟨cb1,0,none⟩)),(18,.int .i64 ((i:Int)))] (fun γ L w=>NB wr 49 9 10 #[.int .i64 nx,.int .i64 ny,.int .i64 nz,.int .i64 ng] γ L w) ⟨rfl,rfl,rfl,trivial⟩ NB.start ?_ ?_
   ·intro D WA Z hD hWA hZ T
    simp only [RV.Outs,RV.Slots,Nat.reduceAdd] at T
    (refine RV.cc _ (RV.pu T (fun γ v L w hl h=>h.other _ (by decide) (by decide)) (fun γ L a w hH hl h9 k9=>⟨_,?_,rfl⟩)) ?_;· have q0:=c_after hH.glob.below b0;have q1:=c_after hH.glob.below b1;have q2:=c_after hH.glob.below b2;have q3:=c_after hH.glob.below b3;simp [execOp,go_sem,h9,q0,q1,q2,q3])
    iterate 2 (refine RV.cc _ (RV.pu T (fun γ v L w hl h=>h.other _ (by decide) (by decide)) (fun γ L a w hH hl h9 k9=>⟨_,?_,rfl⟩)) ?_;· simp [execOp,go_sem,h9])
    (refine RV.cc _ (RV.pu T (fun γ v L w hl h=>h.other _ (by decide) (by decide)) (fun γ L a w hH hl h9 k9=>⟨_,?_,rfl⟩)) ?_;· simp [Region.binds] at k9;simp [execOp,go_sem,h9,k9,hl1])
    (refine RV.cc _ (RV.pu T (fun γ v L w hl h=>h.other _ (by decide) (by decide)) (fun γ L a w hH hl h9 k9=>⟨_,?_,rfl⟩)) ?_;· have x09:=c_after hH.glob.below x0;have x19:=c_after hH.glob.below x1;have x29:=c_after hH.glob.below x2;have x39:=c_after hH.glob.below x3;simp [Region.binds] at k9;simp [execOp,go_sem,h9,k9,x09,x19,x29,x39])
    refine RV.cc _ (RV.dc (fun γ L a w hH hl hA=>by have h9:=T γ L a w hH;have k9:=hA;simp [Region.binds] at k9;exact ⟨_,_,by simp [go_sem,h9,k9],Calls.mono (HAPC.out w hH.glob.below) (by rintro e w2 ⟨rfl,ha⟩;exact ⟨_,rfl,rfl,fun j v _ h=>h.keep _,hH.glob.come _ ha (by decide) (by decide)⟩)⟩)) ?_
    iterate 3 (refine RV.cc _ (RV.pu T (fun γ v L w hl h=>h.other _ (by decide) (by decide)) (fun γ L a w hH hl h9 k9=>⟨_,?_,rfl⟩)) ?_;· simp [Region.binds] at k9;simp [execOp,go_sem,h9,k9])
    refine RV.cc _ (RV.does_step (fun γ L a w hH hl hA=>⟨.pointer (some ⟨w.heap.size,0,none⟩),w.alloc (.cells #[.int .i64 0,.int .i64 0,.int .i64 0,.int .i64 0] 49),by simp [execOp,go_sem],trivial,fun j v _ h=>h.keep _,hH.glob.made #[.int .i64 0,.int .i64 0,.int .i64 0,.int .i64 0] rfl (RV.ny hH (RV.wt (j:=10) (i:=9) hWA (by kernel_rfl)) hl) (by decide)⟩)) ?_
    refine RV.cc _ (RV.does_store (fun γ L a w hH hl hA=>by have h9:=T γ L a w hH;have k9:=hA;simp [Region.binds] at k9;have l0:L 9 = true:=hA ⟨9,.data⟩ (by simp) rfl;have e0:=hH.slot 9 19 (by rw [<- hD];rfl) l0;obtain ⟨b,hb1,hb2,hb3,hb4⟩:=hH.glob.spot l0;rw [hb1] at e0;exact ⟨_,exec_store_all 49 _ _ rfl b 0 _ (by simp [Act.eval,e0]) (by simp [Act.eval,h9,k9]) hb3 (by kernel_rfl) (by simp only [List.all_toArray,List.all_cons,List.all_nil,Value.oneCell',Bool.and_self]),trivial,fun j v _ h=>h.keep _,hb4 (by decide) _⟩)) ?_
    (refine RV.cc _ (RV.pu T (fun γ v L w hl h=>h.other _ (by decide) (by decide)) (fun γ L a w hH hl h9 k9=>⟨_,?_,rfl⟩)) ?_;· simp [Region.binds] at k9;simp [execOp,go_sem,h9,k9])
    exact RV.AllDo.nil
   ·intro γ w5 L9 hL hI9 hG9
    obtain ⟨hB9,nb,e9,hnb,Cnb⟩:=hG9.done (hL 9 (by decide)) (hL 10 (by decide))
    have HB9_:Hid (Below _ _ _):=hB9
    clear hG9 hB9
    simp only [RV.putL,Act.put,List.setIfInBounds_toArray,List.set_cons_zero,List.set_cons_succ,Nat.reduceAdd]
    rw [e9]
    have Cnb:Hid (CW _ _ _):=Cnb
    clear e9
    clear hI9 hL
    have HBa:Hid (Below wr.heap.size wr w5):=HB9_.out
    have CN:Hid (CW _ _ _):=Cnb
    clear HB9_ hnb Cnb b0 b1 b2 b3
    have x0:=c_after HBa.out x0
    have x1:=c_after HBa.out x1
    have x2:=c_after HBa.out x2
    have x3:=c_after HBa.out x3
    have hq:=b_step HB9.out HBa.out
    have b0:=(CB1.out.step hq 0 _ rfl).1
    have b1:=(CB1.out.step hq 1 _ rfl).1
    have b2:=(CB1.out.step hq 2 _ rfl).1
    have b3:=(CB1.out.step hq 3 _ rfl).1
    have y0:=(CY1.out.step hq 0 _ rfl).1
    have y1:=(CY1.out.step hq 1 _ rfl).1
    have y2:=(CY1.out.step hq 2 _ rfl).1
    have HQ:Hid _:=hq
    clear hq HAPC
    go_upto_region 14 with fail
    refine RV.rs [.some (.agg #[.slice (some ⟨s1,0,none⟩) 1 1,.slice none 0 0,.slice none 0 0,.int .i64 r]),.some (.agg #[.int .i64 wx,.int .i64 wq,.int .i64 wz]),.some (.slice (some ⟨lb,lo,none⟩) L.length uc),.some (.int .i64 ((i:Int))),.some (.pointer (some ⟨lb,lo + i * 4,none⟩)),.some (.agg #[.slice (some ⟨gc,fc,none⟩) c.P.length c4,.slice o5 c.A.length c5,.slice o6 c.E.length c6,.int .i64 c.r]),.some (.tuple #[.int .i64 ((mN:Nat):Int),.agg #[.int .i64 xx,.int .i64 xy,.int .i64 xz,.int .i64 xg],.bool true]),.some (.tuple #[.int .i64 ((mN:Nat):Int),.agg #[.int .i64 xx,.int .i64 xy,.int .i64 xz,.int .i64 xg],.bool true]),.some (.int .i64 (((mN:Nat):Int))),.some (.agg #[.int .i64 xx,.int .i64 xy,.int .i64 xz,.int .i64 xg]),.some (.bool (true)),none,.some (.int .i64 (((mN:Nat):Int))),none,.some (.bool (true))] [100,101,102,103,104,105,106,99,107,108,109,23,22,0,24] [(7,.slice (some ⟨lb,lo,none⟩) L.length uc),(11,.pointer (some ⟨cb1,0,none⟩)),(12,.pointer (some ⟨yb1,0,none⟩)),(18,.int .i64 ((i:Int)))] (fun γ L w=>NB w5 49 11 13 #[.int .i64 xx,.int .i64 xy,.int .i64 xz,.int .i64 xg] γ L w) ⟨rfl,rfl,rfl,rfl,trivial⟩ NB.start ?_ ?_
    ·intro D WA Z hD hWA hZ T
     simp only [RV.Outs,RV.Slots,Nat.reduceAdd] at T
     (refine RV.cc _ (RV.pu T (fun γ v L w hl h=>h.other _ (by decide) (by decide)) (fun γ L a w hH hl h9 k9=>⟨_,?_,rfl⟩)) ?_;· have q0:=c_after hH.glob.below b0;have q1:=c_after hH.glob.below b1;have q2:=c_after hH.glob.below b2;have q3:=c_after hH.glob.below b3;simp [execOp,go_sem,h9,q0,q1,q2,q3])
     (refine RV.cc _ (RV.pu T (fun γ v L w hl h=>h.other _ (by decide) (by decide)) (fun γ L a w hH hl h9 k9=>⟨_,?_,rfl⟩)) ?_;· have q0:=c_after hH.glob.below y0;have q1:=c_after hH.glob.below y1;have q2:=c_after hH.glob.below y2;simp [execOp,go_sem,h9,q0,q1,q2])
     iterate 2 (refine RV.cc _ (RV.pu T (fun γ v L w hl h=>h.other _ (by decide) (by decide)) (fun γ L a w hH hl h9 k9=>⟨_,?_,rfl⟩)) ?_;· simp [execOp,go_sem,h9])
     (refine RV.cc _ (RV.pu T (fun γ v L w hl h=>h.other _ (by decide) (by decide)) (fun γ L a w hH hl h9 k9=>⟨_,?_,rfl⟩)) ?_;· simp [Region.binds] at k9;simp [execOp,go_sem,h9,k9,hl1])
     (refine RV.cc _ (RV.pu T (fun γ v L w hl h=>h.other _ (by decide) (by decide)) (fun γ L a w hH hl h9 k9=>⟨_,?_,rfl⟩)) ?_;· have x09:=c_after hH.glob.below x0;have x19:=c_after hH.glob.below x1;have x29:=c_after hH.glob.below x2;have x39:=c_after hH.glob.below x3;simp [Region.binds] at k9;simp [execOp,go_sem,h9,k9,x09,x19,x29,x39])
     refine RV.cc _ (RV.dc (fun γ L a w hH hl hA=>by have h9:=T γ L a w hH;have k9:=hA;simp [Region.binds] at k9;exact ⟨_,_,by simp [go_sem,h9,k9],Calls.mono (HCSC.out w (b_step HBa.out hH.glob.below)) (by rintro e w2 ⟨rfl,ha⟩;exact ⟨_,rfl,rfl,fun j v _ h=>h.keep _,hH.glob.come _ ha (by decide) (by decide)⟩)⟩)) ?_
     iterate 4 (refine RV.cc _ (RV.pu T (fun γ v L w hl h=>h.other _ (by decide) (by decide)) (fun γ L a w hH hl h9 k9=>⟨_,?_,rfl⟩)) ?_;· simp [Region.binds] at k9;simp [execOp,go_sem,h9,k9])
     refine RV.cc _ (RV.does_step (fun γ L a w hH hl hA=>⟨.pointer (some ⟨w.heap.size,0,none⟩),w.alloc (.cells #[.int .i64 0,.int .i64 0,.int .i64 0,.int .i64 0] 49),by simp [execOp,go_sem],trivial,fun j v _ h=>h.keep _,hH.glob.made #[.int .i64 0,.int .i64 0,.int .i64 0,.int .i64 0] rfl (RV.ny hH (RV.wt (j:=13) (i:=11) hWA (by kernel_rfl)) hl) (by decide)⟩)) ?_
     (refine RV.cc _ (RV.pu T (fun γ v L w hl h=>h.other _ (by decide) (by decide)) (fun γ L a w hH hl h9 k9=>⟨_,?_,rfl⟩)) ?_;· simp [Region.binds] at k9;simp [execOp,go_sem,h9,k9])
     refine RV.cc _ (RV.does_store (fun γ L a w hH hl hA=>by have h9:=T γ L a w hH;have k9:=hA;simp [Region.binds] at k9;have l0:L 11 = true:=hA ⟨11,.data⟩ (by simp) rfl;have e0:=hH.slot 11 22 (by rw [<- hD];rfl) l0;obtain ⟨b,hb1,hb2,hb3,hb4⟩:=hH.glob.spot l0;rw [hb1] at e0;exact ⟨_,exec_store_all 49 _ _ rfl b 0 _ (by simp [Act.eval,e0]) (by simp [Act.eval,h9,k9]) hb3 (by kernel_rfl) (by simp only [List.all_toArray,List.all_cons,List.all_nil,Value.oneCell',Bool.and_self]),trivial,fun j v _ h=>h.keep _,hb4 (by decide) _⟩)) ?_
     (refine RV.cc _ (RV.pu T (fun γ v L w hl h=>h.other _ (by decide) (by decide)) (fun γ L a w hH hl h9 k9=>⟨_,?_,rfl⟩)) ?_;· simp [Region.binds] at k9;simp [execOp,go_sem,h9,k9])
     exact RV.AllDo.nil
    ·intro γ w6 L9 hL hI9 hG9
     obtain ⟨hB9,mb,e9,hmb,Cmb⟩:=hG9.done (hL 11 (by decide)) (hL 13 (by decide))
     have HB9_:Hid (Below _ _ _):=hB9
     clear hG9 hB9
     simp only [RV.putL,Act.put,List.setIfInBounds_toArray,List.set_cons_zero,List.set_cons_succ,Nat.reduceAdd]
     rw [e9]
     have Cmb:Hid (CW _ _ _):=Cmb
     clear e9
     clear hI9 hL
     have hb6:=HB9_.out
     have HB0:Hid (Below W6.heap.size W6 w6):=b_step HQ.out hb6
     have CN:Hid (CW _ _ _):=CN.out.step hb6
     have CM:Hid (CW _ _ _):=Cmb
     have HLP:Hid _:=(HLP.out.below HBa.out).below hb6
     have x0:=c_after hb6 x0
     have x3:=c_after hb6 x3
     clear HB9_ hb6 hmb Cmb b0 b1 b2 b3 y0 y1 y2 x1 x2 HCSC HQ HBa
     have n3:=(CN.out 3 _ rfl).1
     by_cases hng:ng < 0
     ·have HFR2:Hid (bq = true ↔ ∀ j,j < i + 1->holdP BC ⟨wx,wq,wz⟩ (cr L j) = true->(castR BC ⟨wx,wq,wz⟩ (cr L j)).1 = 16):=by
       refine HFR.out.trans ⟨fun h j hj hp=>?_,fun h j hj hp=>h j (by omega) hp⟩
       by_cases e:j = i
       ·subst e
        rw [HCI.out] at hp
        have:=HHF.out.1 hp
        omega
       ·exact h j (by omega) hp
      clear HFR HNX HMN HCR HHF
      go_wp2_with (fail)
      go_roundg (L.length - (i + 1))
      case measure=>have:=HG.out;omega
      case rel=>exact ⟨i + 1,bq,rfl,by go_num,by omega,rfl,HB0,HFR2⟩
     ·have hp:=HHF.out.2 (by omega)
      have hmk:=HMN.out hp
      obtain ⟨hn1,hd1,hu1,hg1,hp1,hq1⟩:=HNX.out hp hmk
      have HFR2:Hid ((bq && decide (mN = 16)) = true ↔ ∀ j,j < i + 1->holdP BC ⟨wx,wq,wz⟩ (cr L j) = true->(castR BC ⟨wx,wq,wz⟩ (cr L j)).1 = 16):=by
       show _ ↔ _
       rw [Bool.and_eq_true,decide_eq_true_eq]
       constructor
       ·rintro ⟨h,h2⟩ j hj hp2
        by_cases e:j = i
        ·subst e
         rw [HCI.out,HCR.out]
         exact h2
        ·exact HFR.out.1 h j (by omega) hp2
       ·intro h
        refine ⟨HFR.out.2 fun j hj hp2=>h j (by omega) hp2,?_⟩
        have h3:=h i (by omega) (by rw [HCI.out];exact hp)
        rw [HCI.out,HCR.out] at h3
        exact h3
      have HSZ:Hid _:=fun w'=>hsizes_any ⟨xx,xy,xz⟩ hn1 w'
      have HDT:Hid (∀ q ∈ c.P,¬ Pt.dot ⟨xx,xy,xz⟩ (q.sub ⟨ex,ey,ez⟩) < (xg + r + c.r) * dn ⟨xx,xy,xz⟩ - 4 * up ⟨xx,xy,xz⟩):=fun q hq=>Int.not_lt.2 (Int.not_lt.1 (by simpa using hq1 q hq))
      have HN1:Hid _:=hn1
      have hm1:¬ ((mN:Nat):Int) < ((kN:Nat):Int):=by omega
      dsimp only at HSZ
      generalize dn ⟨xx,xy,xz⟩ = dN at *
      generalize up ⟨xx,xy,xz⟩ = uN at *
      have hr1:1 <= c.r/\c.r <= 16384:=HOKC.out.1.2
      have hr2:=HRB.out
      obtain ⟨z1,hz1⟩:∃ x,xg + r = x:=⟨_,rfl⟩
      obtain ⟨z2,hz2⟩:∃ x,z1 + c.r = x:=⟨_,rfl⟩
      obtain ⟨z3,hz3⟩:∃ x,z2 * dN = x:=⟨_,rfl⟩
      obtain ⟨z4,hz4⟩:∃ x,4 * uN = x:=⟨_,rfl⟩
      obtain ⟨z5,hz5⟩:∃ x,z3 - z4 = x:=⟨_,rfl⟩
      rw [hz1,hz2] at hg1
      rw [hz1,hz2,hz3] at hp1
      rw [hz1,hz2,hz3,hz4,hz5] at HDT
      have w_1:IntKind.i64.wrap (xg + r) = z1:=by rw [hz1,IntKind.wrap_i64];omega
      have w_2:IntKind.i64.wrap (z1 + c.r) = z2:=by rw [hz2,IntKind.wrap_i64];omega
      have w_3:IntKind.i64.wrap (z2 * dN) = z3:=by rw [hz3,IntKind.wrap_i64];omega
      have w_4:IntKind.i64.wrap (4 * uN) = z4:=by rw [hz4,IntKind.wrap_i64];omega
      have w_5:IntKind.i64.wrap (z3 - z4) = z5:=by rw [hz5,IntKind.wrap_i64];omega
      clear hp hmk hn1 hd1 hu1 hg1 hp1 hq1 HFR HNX HMN HCR HHF hz1 hz2 hz3 hz4 hz5 hr1 hr2
      go_upto_region 18 with fail
      go_cut [17] from 118 to 122 (fun s17 wx=>s17 = .bool (bq && decide (mN = 16))/\wx = w6)
      case first =>
       clear HFR2
       cases bq with
       | false =>
        go_wp2_with (fail)
        go_meet
        case rel=>exact ⟨rfl,rfl⟩
       | true =>
        by_cases hm:mN = 16
        ·subst hm
         go_wp2_with (fail)
         go_meet
         case rel=>exact ⟨rfl,rfl⟩
        ·have hm2:((mN:Int) == 16) = false:=beq_eq_false_iff_ne.2 (by omega)
         have HM3:Hid (decide (mN = 16) = false):=decide_eq_false hm
         clear hm
         go_wp2_with (fail)
         go_meet
         case rel=>exact ⟨by rw [HM3.out];rfl,rfl⟩
      case rest =>
       obtain ⟨rfl,hwc⟩:=hcut
       obtain rfl:w6 = wc:=hwc.symm
       clear hwc n3 CN
       generalize (bq && decide (mN = 16)) = bq2 at *
       have m0:=(CM.out 0 _ rfl).1
       have m1:=(CM.out 1 _ rfl).1
       have m2:=(CM.out 2 _ rfl).1
       go_wp2_with (fail)
       refine Calls.mono (HSZ.out _) ?_
       rintro e w7 ⟨rfl,hb⟩
       have HB0:Hid (Below W6.heap.size W6 w7):=b_step HB0.out hb
       have CM:Hid (CW _ _ _):=CM.out.step hb
       have HLP:Hid _:=HLP.out.below hb
       have X0:Hid _:=c_after hb x0
       have X3:Hid _:=c_after hb x3
       clear hb x0 x3 m0 m1 m2 HSZ hm1
       go_wp2_with (fail)
       go_loopg [26] c.P.length (fun gm s26 wr2=>∃ n:Nat,s26 = .int .i64 (n:Int)/\n <= c.P.length/\Hid (gm = c.P.length - n)/\Hid (Below w7.heap.size w7 wr2))
       case atStart=>exact ⟨0,rfl,Nat.zero_le _,rfl,Below.refl _ _⟩
       case round =>
        obtain ⟨n,rfl,hn9,HGN,HBN⟩:=hrel
        have x0:=c_after HBN.out X0.out
        by_cases hnt:n < c.P.length
        ·have hn1:(n:Int) < (c.P.length:Int):=by omega
         obtain ⟨o',cap',e',_,_,hpc⟩:=(HLP.out.below HBN.out).form
         cases e'
         obtain ⟨g',f',e',p0,p1,p2⟩:=hpc n hnt
         cases e'
         have hqd:=HDT.out (pt c.P n) (pt_mem hnt)
         have hpb:=HOKC.out.1.1.2.2 (pt c.P n) (pt_mem hnt)
         obtain ⟨⟨px,py,pz⟩,hpt⟩:∃ q,pt c.P n = q:=⟨_,rfl⟩
         rw [hpt] at p0 p1 p2
         rw [hpt] at hqd hpb
         dsimp only at p0 p1 p2
         have HMI:Hid _:=fun w'=>nminus_any ⟨px,py,pz⟩ ⟨ex,ey,ez⟩ w' (inB_mono hpb (by decide)) HEB.out
         have HDO:Hid _:=fun w'=>nrdot_any ⟨xx,xy,xz⟩ (Pt.sub ⟨px,py,pz⟩ ⟨ex,ey,ez⟩) w' (inB_mono HN1.out (by decide)) (sub_bound hpb HEB2.out)
         obtain ⟨dD,hdD⟩:∃ x,Pt.dot ⟨xx,xy,xz⟩ (Pt.sub ⟨px,py,pz⟩ ⟨ex,ey,ez⟩) = x:=⟨_,rfl⟩
         obtain ⟨⟨sx,sy,sz⟩,hsb⟩:∃ x,Pt.sub ⟨px,py,pz⟩ ⟨ex,ey,ez⟩ = x:=⟨_,rfl⟩
         rw [hdD] at hqd HDO
         rw [hsb] at HMI HDO
         unfold Pt.v at HMI HDO
         dsimp only at HMI HDO
         clear hpc hpb hpt hdD hsb
         have HQD:Hid _:=hqd
         clear hqd
         have hqN:=b_step HB0.out HBN.out
         have c0:=(CB2.out.step hqN 0 _ rfl).1
         obtain ⟨e0,e1,e2⟩:=lies_one_at (LS2.out.below hqN)
         have m0:=(CM.out.step HBN.out 0 _ rfl).1
         have m1:=(CM.out.step HBN.out 1 _ rfl).1
         have m2:=(CM.out.step HBN.out 2 _ rfl).1
         clear hqN
         go_upto_region 25 with fail
         refine RV.rs [.some (.pointer (some ⟨mb,0,none⟩)),.some (.agg #[.int .i64 xx,.int .i64 xy,.int .i64 xz]),.some (.slice (some ⟨lb,lo,none⟩) L.length uc),.some (.int .i64 ((i:Int))),.some (.pointer (some ⟨lb,lo + i * 4,none⟩)),.some (.pointer (some ⟨lb,lo + i * 4,none⟩)),.some (.slice (some ⟨gc,fc,none⟩) c.P.length c4),.some (.int .i64 ((n:Int))),.some (.pointer (some ⟨gc,fc + n * 3,none⟩)),.some (.agg #[.int .i64 px,.int .i64 py,.int .i64 pz]),.some (.pointer (some ⟨cb2,0,none⟩)),.some (.slice (some ⟨s2,0,none⟩) 1 1),.some (.pointer (some ⟨s2,0,none⟩)),.some (.agg #[.int .i64 ex,.int .i64 ey,.int .i64 ez]),.some (.agg #[.int .i64 sx,.int .i64 sy,.int .i64 sz]),.some (.int .i64 dD),.some (.int .i64 dD)] [143,144,145,146,147,148,149,150,151,152,153,154,155,156,157,158,28] [(7,.slice (some ⟨lb,lo,none⟩) L.length uc),(14,.pointer (some ⟨cb2,0,none⟩)),(18,.int .i64 ((i:Int))),(22,.pointer (some ⟨mb,0,none⟩)),(26,.int .i64 ((n:Int)))] (fun γ L w=>Below wr.heap.size wr w) ⟨rfl,rfl,rfl,rfl,rfl,trivial⟩ (Below.refl _ wr).drew ?_ ?_
         ·intro D WA Z hD hWA hZ T
          simp only [RV.Outs,RV.Slots,Nat.reduceAdd] at T
          (refine RV.cc _ (RV.pu T (fun γ v L w hl h=>h) (fun γ L a w hH hl h9 k9=>⟨_,?_,rfl⟩)) ?_;· simp [execOp,go_sem,h9])
          (refine RV.cc _ (RV.pu T (fun γ v L w hl h=>h) (fun γ L a w hH hl h9 k9=>⟨_,?_,rfl⟩)) ?_;· have m09:=c_after hH.glob m0;have m19:=c_after hH.glob m1;have m29:=c_after hH.glob m2;simp [Region.binds] at k9;simp [execOp,go_sem,h9,k9,m09,m19,m29])
          iterate 2 (refine RV.cc _ (RV.pu T (fun γ v L w hl h=>h) (fun γ L a w hH hl h9 k9=>⟨_,?_,rfl⟩)) ?_;· simp [execOp,go_sem,h9])
          (refine RV.cc _ (RV.pu T (fun γ v L w hl h=>h) (fun γ L a w hH hl h9 k9=>⟨_,?_,rfl⟩)) ?_;· simp [Region.binds] at k9;simp [execOp,go_sem,h9,k9,hl1])
          (refine RV.cc _ (RV.pu T (fun γ v L w hl h=>h) (fun γ L a w hH hl h9 k9=>⟨_,?_,rfl⟩)) ?_;· simp [Region.binds] at k9;simp [execOp,go_sem,h9,k9])
          (refine RV.cc _ (RV.pu T (fun γ v L w hl h=>h) (fun γ L a w hH hl h9 k9=>⟨_,?_,rfl⟩)) ?_;· have x09:=c_after hH.glob x0;simp [Region.binds] at k9;simp [execOp,go_sem,h9,k9,x09])
          (refine RV.cc _ (RV.pu T (fun γ v L w hl h=>h) (fun γ L a w hH hl h9 k9=>⟨_,?_,rfl⟩)) ?_;· simp [execOp,go_sem,h9])
          (refine RV.cc _ (RV.pu T (fun γ v L w hl h=>h) (fun γ L a w hH hl h9 k9=>⟨_,?_,rfl⟩)) ?_;· simp [Region.binds] at k9;simp [execOp,go_sem,h9,k9,hn1])
          (refine RV.cc _ (RV.pu T (fun γ v L w hl h=>h) (fun γ L a w hH hl h9 k9=>⟨_,?_,rfl⟩)) ?_;· have p09:=c_after hH.glob p0;have p19:=c_after hH.glob p1;have p29:=c_after hH.glob p2;simp [Region.binds] at k9;simp [execOp,go_sem,h9,k9,p09,p19,p29])
          (refine RV.cc _ (RV.pu T (fun γ v L w hl h=>h) (fun γ L a w hH hl h9 k9=>⟨_,?_,rfl⟩)) ?_;· simp [execOp,go_sem,h9])
          (refine RV.cc _ (RV.pu T (fun γ v L w hl h=>h) (fun γ L a w hH hl h9 k9=>⟨_,?_,rfl⟩)) ?_;· have c09:=c_after hH.glob c0;simp [Region.binds] at k9;simp [execOp,go_sem,h9,k9,c09])
          (refine RV.cc _ (RV.pu T (fun γ v L w hl h=>h) (fun γ L a w hH hl h9 k9=>⟨_,?_,rfl⟩)) ?_;· simp [Region.binds] at k9;simp [execOp,go_sem,h9,k9])
          (refine RV.cc _ (RV.pu T (fun γ v L w hl h=>h) (fun γ L a w hH hl h9 k9=>⟨_,?_,rfl⟩)) ?_;· have e09:=c_after hH.glob e0;have e19:=c_after hH.glob e1;have e29:=c_after hH.glob e2;simp [Region.binds] at k9;simp [execOp,go_sem,h9,k9,e09,e19,e29])
          refine RV.cc _ (RV.dc (fun γ L a w hH hl hA=>by have h9:=T γ L a w hH;have k9:=hA;simp [Region.binds] at k9;exact ⟨_,_,by simp [go_sem,h9,k9],Calls.mono (HMI.out w) (by rintro e w2 ⟨rfl,ha⟩;exact ⟨_,rfl,rfl,fun j v _ h=>h.keep _,b_step hH.glob ha⟩)⟩)) ?_
          refine RV.cc _ (RV.dc (fun γ L a w hH hl hA=>by have h9:=T γ L a w hH;have k9:=hA;simp [Region.binds] at k9;exact ⟨_,_,by simp [go_sem,h9,k9],Calls.mono (HDO.out w) (by rintro e w2 ⟨rfl,ha⟩;exact ⟨_,rfl,rfl,fun j v _ h=>h.keep _,b_step hH.glob ha⟩)⟩)) ?_
          (refine RV.cc _ (RV.pu T (fun γ v L w hl h=>h) (fun γ L a w hH hl h9 k9=>⟨_,?_,rfl⟩)) ?_;· simp [Region.binds] at k9;simp [execOp,go_sem,h9,k9])
          exact RV.AllDo.nil
         ·intro γ w8 L9 hL hI9 hG9
          have HB9_:Hid (Below _ _ _):=hG9
          clear hG9
          simp only [RV.putL,Act.put,List.setIfInBounds_toArray,List.set_cons_zero,List.set_cons_succ]
          clear hI9 hL
          have HBM2:Hid (Below w7.heap.size w7 w8):=b_step HBN.out HB9_.out
          have x0:=c_after HBM2.out X0.out
          have x3:=c_after HBM2.out X3.out
          have m3:=(CM.out.step HBM2.out 3 _ rfl).1
          have hlt:=HQD.out
          go_upto_region 26 with fail
          clear HB9_ HBN p0 p1 p2 e0 e1 e2 c0 m0 m1 m2 HMI HDO HQD
          go_region
          clear m3 x3
          go_wp2_with (fail)
          go_roundg (c.P.length - (n + 1))
          case measure=>have:=HGN.out;omega
          case rel=>exact ⟨n + 1,by go_num,by omega,rfl,by show Below _ _ _;exact HBM2.out.drew⟩
        ·obtain rfl:n = c.P.length:=by omega
         clear HDT
         go_wp2_with (fail)
         go_roundg (L.length - (i + 1))
         case measure=>have:=HG.out;omega
         case rel=>exact ⟨i + 1,bq2,rfl,by go_num,by omega,rfl,b_step HB0.out HBN.out,HFR2⟩
  ·obtain rfl:i = L.length:=by omega
   have hfr:=HFR.out
   have hkd:=HKD.out
   have hcb:=HFC.out
   have hbk:(bq == ((kN:Int) == 16)) = true:=by
    cases bq with
    | true =>
     have h9:holdK BC ⟨wx,wq,wz⟩ L L.length = 16:=hold_all (hfr.1 rfl)
     have h8:kN = 16:=by rw [<- hkd];exact h9
     subst h8
     rfl
    | false =>
     have h8:¬ kN = 16:=fun h=>by
      have h7:=hfr.2 (fun j hj hp=>hold_16 (hkd.trans h) hj hp)
      cases h7
     have:((kN:Int) == 16) = false:=beq_eq_false_iff_ne.2 (by omega)
     rw [this]
     rfl
   clear hfr hkd hcb HFR HFC HNM HKD HBM HBCE HLC LS1 LS2 CB1 CY1 CB2 HG
   have hq:=b_step HB6.out HB9.out
   have q0t:=(CT.out.step hq 0 _ rfl).1
   have q0a:=(CA.out.step HB9.out 0 _ rfl).1
   have q1t:=(CT.out.step hq 1 _ rfl).1
   have q1a:=(CA.out.step HB9.out 1 _ rfl).1
   have q2t:=(CT.out.step hq 2 _ rfl).1
   have q2a:=(CA.out.step HB9.out 2 _ rfl).1
   have HBF:Hid _:=b_step HB.out hq
   clear hq
   by_cases hk:kN = 16
   ·have e9:=HAT1.out hk
    cases e9
    subst hk
    have hb9:bq = true:=by simpa using hbk
    subst hb9
    clear HAT1 HAT2 H16 hbk
    have hl8:¬ (((16:Nat):Int) < 16):=by omega
    go_wp2_with (fail)
    go_ret
    exact ⟨rfl,HBF.out⟩
   ·have hl8:((kN:Nat):Int) < 16:=by have:=H16.out;omega
    have hn9:((kN:Int) == 16) = false:=beq_eq_false_iff_ne.2 (by omega)
    have hb9:bq = false:=by rw [hn9] at hbk;simpa using hbk
    subst hb9
    clear HAT1 HAT2 H16 hk hbk
    go_wp2_with (fail)
    go_ret
    exact ⟨rfl,HBF.out⟩
theorem lifted (os:Os) (started:os.Started) (H:Type) (enc:TypeId × Value->H) :
  ReturnsInHanded {} Tryz.checked os 5 .any (Rows.ccdHoldsSpec.pre6 enc Tryz.prog Tryz.f5 Rows.ccdHoldsRow.domain false) (Rows.ccdHoldsSpec.post enc Tryz.prog Tryz.f5 false true false false):=by
 refine returnsInHanded_of_change (C:=Tryz.checked) own started (by kernel_rfl) Tryz.func5
  (ChangeSpec.witness6 (enc:=enc) (C:=Tryz.checked) false ⟨#[],#[.agg #[.int .i64 0,.int .i64 0,.int .i64 0,.int .i64 0,.int .i64 0,.int .i64 0,.int .i64 0,.slice none 0 0,.slice none 0 0]],[]⟩ 8 (by kernel_rfl) (by kernel_rfl) (by kernel_rfl) (by kernel_rfl)) ?_
 intro W base args ds gs before hval0 hW hcnd _
 have hval:∀ (j:Nat) t v,Tryz.f5.params[j]? = some t->args[j]? = some v->Value.okWide Tryz.prog W .any base t v:=hval0
 have hW':=hW
 obtain ⟨p,q,hA0,hV,rfl,hfz,hnd⟩:=hW
 have hA:DataW.TrodAll enc Tryz.prog W 0 (fun _=>true) true Tryz.f5.params.toList args.toList ds p:=hA0
 rw [Tryz.params5] at hA hval
 obtain ⟨v0,vs0,d0,ds0,p0,q0,hargs,rfl,rfl,h0,r0⟩:=trodAll_cons hA
 obtain ⟨rfl,rfl,rfl⟩:=trodAll_nil r0
 obtain rfl:args = #[v0]:=by cases args;simp_all
 obtain ⟨rfl,rfl⟩:=trodVars_none hV
 have k0:=h0
 have lt0:∀ x ∈ p0,x.block < W.heap.size:=by obtain ⟨m,hm⟩:=k0;exact DataW.trod_lt m _ _ _ hm
 obtain ⟨fv,yv,rr,oa,RR,ca,ob,SS,cb,rfl,hR,oR,hS,oS,bds⟩:=open_shot (hval 0 41 v0 rfl rfl) h0
 clear hA0 hval0
 refine (walk fv yv rr oa RR ca ob SS cb W hR oR hS oS bds).mono fun e W' ⟨he,bel⟩=>?_
 subst he
 exact ⟨_,rfl,_,_,_,[],_,[],hW',trodAll_mk1 (shut_bool Tryz.underlying4 _),(trodAll_cons_mk (Below.trod laidOut (by kernel_rfl) (of_decide_eq_true (by kernel_rfl)) k0 bel lt0) trodAll_mk0),rfl,bel.frame _,fun h=>by cases h⟩
theorem over:Rows.ccdHoldsRow.holds Tryz.pinned (OpenSpec.ofChange Rows.ccdHoldsSpec):=
 OpenClaim.holds_of_wide 5 Tryz.f5 rfl rfl rfl rfl rfl rfl rfl ⟨rfl,rfl,rfl,rfl,rfl⟩ rfl rfl rfl rfl rfl (by kernel_rfl) Tryz.func5 (by kernel_rfl)
  (of_decide_eq_true (by kernel_rfl)) (by unfold Func.isWrapper;first | (rw [if_pos (by decide +kernel)];kernel_rfl) | (rw [if_neg (by decide +kernel)];exact ⟨rfl,rfl⟩))
  (fun os started H enc _=>lifted os started H enc)
end ccdHolds
theorem ccdHolds_holds:Rows.CcdHoldsSaid:=ccdHolds.over
#print axioms ccdHolds_holds
end
end Go.Proofs.YtablgiflakncfaaGreat
