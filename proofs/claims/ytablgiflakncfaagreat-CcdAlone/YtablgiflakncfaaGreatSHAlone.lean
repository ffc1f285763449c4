/- Where nothing stands, and where a wall is behind, a ball comes to where it would: for all raw shots. -/
import Derived.Test.YtablgiflakncfaaGreatBBW12
import Derived.Test.YtablgiflakncfaaGreatBBW11
import Derived.Test.YtablgiflakncfaaGreatBBW0
import Derived.Test.YtablgiflakncfaaGreatProg
import Derived.WalkKit
import Derived.Orders
import Derived.Below
import Derived.Laws.Rows
import Derived.Test.YtablgiflakncfaaGreatBBW10
import Derived.Test.YtablgiflakncfaaGreatBBW5
import Derived.Test.YtablgiflakncfaaGreatEHAlone0
import Derived.Test.YtablgiflakncfaaGreatBBW4
import Derived.Test.YtablgiflakncfaaGreatBBW3
import Derived.Test.YtablgiflakncfaaGreatBBW2
import Derived.Test.YtablgiflakncfaaGreatBBW1
import Derived.RangeFuncNested
import Derived.RangeFuncBound
import Derived.RangeFuncCalls
import Derived.RangeFuncLeaves
import Derived.RangeFuncBox
import Derived.Shelf.Abstract
import Derived.OwnWalkIn
import Derived.TacticsInMore
import Derived.LoopNIn
import Derived.LoopIn
import Derived.LoopTactic
import Derived.ProofKit
import Derived.Handy
import Derived.Laws.MakeOwn
import Derived.Laws.OwnMore
import Derived.Maps.AppendAt
import Derived.Deep.RegionWith
import Derived.Deep.QuietTactic
import Derived.BigQuiet
import Derived.Deep.CutBlock
import Derived.Deep.CutRange
import Derived.Deep.LoopGhost
import Derived.Lib.SmallJoins
import Derived.RowKit
import Derived.Scope
import Derived.OrdersIn
import Derived.Sort.CutIn
import Derived.Test.YtablgiflakncfaaGreatBBW9
import Derived.Test.YtablgiflakncfaaGreatBBW6
import Derived.OneCell
import Derived.WalkMore
import Derived.Lib.BufferMore
import Derived.Test.YtablgiflakncfaaGreatBBW8
import Derived.Test.YtablgiflakncfaaGreatBBW7
import Derived.Laws.MathBits
import Derived.Laws.Externs
import Derived.Laws.BitsAllLaws
import Derived.WalkLawsBesides
import Derived.Lib.AppendZeros
import Derived.Deep.MidRow
import Derived.Test.YtablgiflakncfaaGreatBBW25
import Derived.Test.YtablgiflakncfaaGreatBBW23
import Derived.Test.YtablgiflakncfaaGreatBBW22
import Derived.Test.YtablgiflakncfaaGreatBBW17
import Derived.Test.YtablgiflakncfaaGreatBBW14
import Derived.Test.YtablgiflakncfaaGreatBBW13
import Derived.Test.YtablgiflakncfaaGreatBBW16
import Derived.Test.YtablgiflakncfaaGreatBBW15
import Derived.Deep.RegionHeld3
import Derived.Test.YtablgiflakncfaaGreatBBW19
import Derived.Test.YtablgiflakncfaaGreatBBW18
import Derived.Test.YtablgiflakncfaaGreatBBW21
import Derived.Test.YtablgiflakncfaaGreatBBW20
import Derived.Deep.Onto
import Derived.Test.YtablgiflakncfaaGreatBBW24
import Derived.OpenShut
import Derived.Deep.Slices
import Derived.Test.YtablgiflakncfaaGreatEHAlone1
import Derived.Test.YtablgiflakncfaaGreatRows
namespace Go.Proofs.YtablgiflakncfaaGreat
namespace ccdAlone
open Go.ChangeShapes Go.WideShapes Go.ChangeAt Go.RowKit Go.Shelf
set_option linter.unusedVariables false

theorem own : ownKnob Tryz.prog.godebug = none := by kernel_rfl
theorem laidOut : laidOutB Tryz.prog = true := by kernel_rfl

set_option maxHeartbeats 32000000 in
set_option maxRecDepth 100000 in
theorem walk (fv yv : V3) (rr : Int) (oa : Option Addr) (RR : List Rw) (ca : Nat) (ob : Option Addr) (SS : List Pw) (cb : Nat) (a1 : Int) (w0 : World) (hR : LiesR w0 (.slice oa RR.length ca) RR) (oR : ∀ q ∈ RR, q.ok) (hS : LiesP w0 (.slice ob SS.length cb) SS) (oS : ∀ q ∈ SS, q.ok) (bds : (I64 fv.x ∧ I64 fv.y ∧ I64 fv.z) ∧ (I64 yv.x ∧ I64 yv.y ∧ I64 yv.z) ∧ I64 rr) (ba1 : -9223372036854775808 ≤ a1 ∧ a1 ≤ 9223372036854775807) :
    Calls Tryz.prog 6 #[.agg #[.int .i64 fv.x, .int .i64 fv.y, .int .i64 fv.z, .int .i64 yv.x, .int .i64 yv.y, .int .i64 yv.z, .int .i64 rr, .slice oa RR.length ca, .slice ob SS.length cb], .int .i64 a1] w0 fun e w' => e = .returned (.bool true) ∧ Below w0.heap.size w0 w' := by
  have HPB : Hid (∀ w', Calls Tryz.prog 19 #[.int .i64 a1, .int .i64 1000] w' fun e W => e = .returned (.int .i64 (pickY a1 1000)) ∧ Below w'.heap.size w' W) := fun w' => (hpick_any a1 1000 w' ba1 (by decide) (by decide)).mono (by rintro e W ⟨h1, rfl⟩; exact ⟨h1, Below.refl _ _⟩)
  have HPX : Hid (∀ w', Calls Tryz.prog 19 #[.int .i64 yv.x, .int .i64 274877906944] w' fun e W => e = .returned (.int .i64 (pickY yv.x 274877906944)) ∧ Below w'.heap.size w' W) := fun w' => (hpick_any yv.x 274877906944 w' bds.2.1.1 (by decide) (by decide)).mono (by rintro e W ⟨h1, rfl⟩; exact ⟨h1, Below.refl _ _⟩)
  have hb1 := pickY_lo a1 (n := 1000) (by decide)
  have hb2 := pickY_hi a1 (n := 1000) (by decide)
  have hx1 := pickY_lo yv.x (n := 274877906944) (by decide)
  have hx2 := pickY_hi yv.x (n := 274877906944) (by decide)
  generalize pickY a1 1000 = bN at *
  generalize pickY yv.x 274877906944 = xN at *
  have HBX : Hid ((0 ≤ bN ∧ bN < 1000) ∧ 0 ≤ xN ∧ xN < 274877906944) := ⟨⟨hb1, hb2⟩, hx1, hx2⟩
  clear hb1 hb2 hx1 hx2 ba1
  have AWK : Hid _ := fun W => hawake_any W
  have MD : Hid _ := fun w' (h : Below w0.heap.size w0 w') => made_any fv yv rr RR SS oa ca ob cb w' (hR.below h) oR (hS.below h) oS bds
  clear hR oR hS oS bds
  obtain ⟨A1, hA1⟩ : ∃ V, V = w0.alloc (.cells #[.int .i64 fv.x, .int .i64 fv.y, .int .i64 fv.z, .int .i64 yv.x, .int .i64 yv.y, .int .i64 yv.z, .int .i64 rr, .slice oa RR.length ca, .slice ob SS.length cb] 41) := ⟨_, rfl⟩
  obtain ⟨sb, hsb⟩ : ∃ b, b = w0.heap.size := ⟨_, rfl⟩
  have CS : Hid (CW A1 sb [.int .i64 fv.x, .int .i64 fv.y, .int .i64 fv.z, .int .i64 yv.x, .int .i64 yv.y, .int .i64 yv.z, .int .i64 rr, .slice oa RR.length ca, .slice ob SS.length cb]) := by show CW _ _ _; rw [hA1, hsb]; exact CW.new w0 [.int .i64 fv.x, .int .i64 fv.y, .int .i64 fv.z, .int .i64 yv.x, .int .i64 yv.y, .int .i64 yv.z, .int .i64 rr, .slice oa RR.length ca, .slice ob SS.length cb] 41
  have HB : Hid (Below w0.heap.size w0 A1) := by show Below _ _ _; rw [hA1]; exact n_after _ _
  go_enter Tryz.func6, Tryz.ntmps6
  go_upto_region 1 with fail
  rw [← hA1, ← hsb]
  clear hA1 hsb
  go_wp2_with (fail)
  refine Calls.mono (AWK.out _) ?_
  rintro e V1 ⟨rfl, hb⟩
  have HB : Hid (Below w0.heap.size w0 V1) := b_step HB.out hb
  have CS : Hid (CW _ _ _) := CS.out.step hb
  clear hb AWK
  have x0 := (CS.out 0 _ rfl).1
  have x1 := (CS.out 1 _ rfl).1
  have x2 := (CS.out 2 _ rfl).1
  have x3 := (CS.out 3 _ rfl).1
  have x4 := (CS.out 4 _ rfl).1
  have x5 := (CS.out 5 _ rfl).1
  have x6 := (CS.out 6 _ rfl).1
  have x7 := (CS.out 7 _ rfl).1
  have x8 := (CS.out 8 _ rfl).1
  go_wp2_with (fail)
  refine Calls.mono (MD.out _ HB.out) ?_
  rintro e V2 ⟨⟨gx, gy, gz⟩, ⟨tx, ty, tz⟩, r, u, K, rfl, HK, hok, hl3, hg, ht, hr, hb⟩
  have hLC := HK.out.liesC
  have hokL : ∀ c ∈ K.map CoK.c, okC c := fun c hc => by obtain ⟨k, hk, rfl⟩ := List.mem_map.1 hc; exact hok k hk
  have hl3L : (K.map CoK.c).length ≤ 3 := by rw [List.length_map]; exact hl3
  clear HK hok hl3
  generalize K.map CoK.c = L at *
  obtain ⟨uo, uc, rfl, huc, hum, _⟩ := hLC.form
  have HUC : Hid (L.length ≤ uc ∧ uc ≤ 9223372036854775807) := ⟨huc, hum⟩
  have HOK : Hid _ := hokL
  have HL3 : Hid _ := hl3L
  have HG42 : Hid _ := hg
  have HN38 : Hid _ := ht
  have HRB : Hid _ := hr
  have HB : Hid (Below w0.heap.size w0 V2) := b_step HB.out hb
  have CS : Hid (CW _ _ _) := CS.out.step hb
  have CS2 : Hid (CW V2 _ _) := CS.out
  obtain ⟨V, hV⟩ : ∃ V, V = (V2.alloc (.cells #[.int .i64 gx, .int .i64 gy, .int .i64 gz] 23)).alloc (.cells #[.int .i64 tx, .int .i64 ty, .int .i64 tz] 23) := ⟨_, rfl⟩
  obtain ⟨gb, hgb⟩ : ∃ b, b = V2.heap.size := ⟨_, rfl⟩
  obtain ⟨tb, htb⟩ : ∃ b, b = V2.heap.size + 1 := ⟨_, rfl⟩
  have k1 := n_after V2 (.cells #[.int .i64 gx, .int .i64 gy, .int .i64 gz] 23)
  have k2 := n_after (V2.alloc (.cells #[.int .i64 gx, .int .i64 gy, .int .i64 gz] 23)) (.cells #[.int .i64 tx, .int .i64 ty, .int .i64 tz] 23)
  have c1 := (CW.new V2 [.int .i64 gx, .int .i64 gy, .int .i64 gz] 23).step k2
  have c2 := CW.new (V2.alloc (.cells #[.int .i64 gx, .int .i64 gy, .int .i64 gz] 23)) [.int .i64 tx, .int .i64 ty, .int .i64 tz] 23
  rw [World.size_alloc, ← htb] at c2
  rw [← hgb] at c1
  rw [← hV] at c1 c2
  have CG : Hid (CW V gb [.int .i64 gx, .int .i64 gy, .int .i64 gz]) := c1
  have CT : Hid (CW V tb [.int .i64 tx, .int .i64 ty, .int .i64 tz]) := c2
  have HTB0 : Hid (w0.heap.size ≤ tb) := by have h9 := HB.out.size; show _ ≤ _; omega
  have hbv : Below V2.heap.size V2 V := by rw [hV]; exact b_step k1 k2
  have HB : Hid (Below w0.heap.size w0 V) := b_step HB.out hbv
  have CS : Hid (CW _ _ _) := CS.out.step hbv
  have HLC : Hid (LiesC V (.slice uo L.length uc) L) := hLC.below hbv
  have hgt : gb ≠ tb := by omega
  have HGT : Hid _ := hgt
  have hsg : sb < V2.heap.size := CW.lt CS2.out
  have HSG : Hid (sb ≠ gb ∧ sb ≠ tb) := by show _ ∧ _; omega
  clear CS2 k1 k2 c1 c2 hbv hb MD hgt hsg hg ht hr hokL hl3L huc hum hLC x0 x1 x2 x3 x4 x5 x6 x7 x8
  go_upto_region 3 with fail
  rw [← hV, ← htb, ← hgb]
  clear hV htb hgb
  obtain ⟨X, hX⟩ : ∃ X, X = V.alloc (.cells #[.bool false] 31) := ⟨_, rfl⟩
  obtain ⟨fb, hfb⟩ : ∃ b, b = V.heap.size := ⟨_, rfl⟩
  have HFB : Hid (V.heap.size ≤ fb) := by show _ ≤ _; omega
  have HFB0 : Hid (w0.heap.size ≤ fb) := by have h9 := HB.out.size; show _ ≤ _; omega
  have hcf : CW X fb [.bool false] := by rw [hX, hfb]; exact CW.new V [.bool false] 31
  have HBV : Hid (Below V.heap.size V X) := by show Below _ _ _; rw [hX]; exact n_after _ _
  have HFL : Hid (After ⟨fb, 0, none⟩ false X X) := (Leaves.refl _ _).done (hcf 0 _ rfl).1 (hcf 0 _ rfl).2
  have hl1 := CW.lt CG.out
  have hl2 := CW.lt CT.out
  have hl4 := CW.lt CS.out
  have HNE : Hid (gb ≠ fb ∧ tb ≠ fb ∧ sb ≠ fb) := by show _ ∧ _ ∧ _; omega
  clear hcf hl1 hl2 hl4
  go_upto_region 4 with fail
  rw [← hX, ← hfb]
  clear hX hfb
  have HH : Hid (∀ (M : List Cr) (lv : Value) (fl : Bool) (w' : World), LiesC w' lv M → w'.cell? ⟨fb, 0, none⟩ = some (.bool fl) → w'.frozen? ⟨fb, 0, none⟩ = false → Calls Tryz.prog 10 #[.pointer (some ⟨fb, 0, none⟩), .agg #[.int .i64 gx, .int .i64 gy, .int .i64 gz], .agg #[.int .i64 tx, .int .i64 ty, .int .i64 tz], .int .i64 r, lv] w' fun e W' => e = .returned (.tuple #[(holdV (⟨gx, gy, gz⟩ : V3) (⟨tx, ty, tz⟩ : V3) r M).1.val, .int .i64 ((hK (⟨gx, gy, gz⟩ : V3) (⟨tx, ty, tz⟩ : V3) r M : Nat) : Int)]) ∧ Hid (After ⟨fb, 0, none⟩ (fl || false) w' W')) := fun M lv fl w' h1 h2 h3 => by
    have i1 : (⟨gx, gy, gz⟩ : V3).in45 ∧ (⟨tx, ty, tz⟩ : V3).in45 := by have a := HG42.out; have b := HN38.out; unfold V3.m42 at a; unfold V3.n38 at b; unfold V3.in45; dsimp only at *; omega
    obtain ⟨a1, a2⟩ := hold_small r M i1.1 i1.2
    have h9 := hold_any (⟨gx, gy, gz⟩ : V3) (⟨tx, ty, tz⟩ : V3) r M lv fb fl w' h1 h2 h3 (by have := i1.1; unfold V3.in45 at this; unfold V3.i64; dsimp only at *; omega) (by have := i1.2; unfold V3.in45 at this; unfold V3.i64; dsimp only at *; omega)
    rw [a2] at h9
    have e9 : (holdV (⟨gx, gy, gz⟩ : V3) (⟨tx, ty, tz⟩ : V3) r M).2 = hK (⟨gx, gy, gz⟩ : V3) (⟨tx, ty, tz⟩ : V3) r M := by rw [a1]
    rw [e9] at h9
    exact h9
  obtain ⟨ux, hux⟩ : ∃ x, gx + xN = x := ⟨_, rfl⟩
  have HUW : Hid (IntKind.i64.wrap (gx + xN) = ux) := by show _ = _; rw [hux, IntKind.wrap_i64]; have a := HG42.out; have b := HBX.out; unfold V3.m42 at a; omega
  have HGU : Hid ((⟨gx, gy, gz⟩ : V3).n38 (⟨ux, gy, gz⟩ : V3)) := by show V3.n38 _ _; have b := HBX.out; unfold V3.n38; dsimp only; omega
  have i1 : (⟨gx, gy, gz⟩ : V3).in45 ∧ (⟨tx, ty, tz⟩ : V3).in45 ∧ (⟨ux, gy, gz⟩ : V3).in45 := by have a := HG42.out; have b := HN38.out; have c := HBX.out; unfold V3.m42 at a; unfold V3.n38 at b; unfold V3.in45; dsimp only at *; omega
  have h1 := hold_small r [] i1.1 i1.2.1
  have e1 : hK (⟨gx, gy, gz⟩ : V3) (⟨tx, ty, tz⟩ : V3) r [] = 16 := rfl
  rw [e1, if_pos rfl] at h1
  have hc1 := HH.out [] (.slice none 0 0) false X ⟨none, 0, rfl, by simp, by omega, fun i hi => by simp at hi⟩ HFL.out.cell HFL.out.frozen
  rw [h1.1, e1] at hc1
  dsimp only [V3.val] at hc1
  have HC1 : Hid _ := hc1
  obtain ⟨⟨fx, fy, fz⟩, hgr⟩ : ∃ p, grn (⟨gx, gy, gz⟩ : V3) = p := ⟨_, rfl⟩
  obtain ⟨q0, hq0⟩ : ∃ x, fx - r = x := ⟨_, rfl⟩
  obtain ⟨q1, hq1⟩ : ∃ x, q0 - 9 = x := ⟨_, rfl⟩
  obtain ⟨px, hpx⟩ : ∃ x, q1 - bN = x := ⟨_, rfl⟩
  have efx : fx = gx / 1048576 := by have h9 := congrArg Pt.x hgr; unfold grn at h9; exact h9.symm
  have hfb : -4194305 ≤ fx ∧ fx ≤ 4194305 := by have a := HG42.out; unfold V3.m42 at a; omega
  clear efx
  have HWQ : Hid (IntKind.i64.wrap (fx - r) = q0 ∧ IntKind.i64.wrap (q0 - 9) = q1 ∧ IntKind.i64.wrap (q1 - bN) = px) := by
    have b := HBX.out
    have c := HRB.out
    rw [hq0, hq1, hpx, IntKind.wrap_i64, IntKind.wrap_i64, IntKind.wrap_i64]
    show _ ∧ _ ∧ _
    omega
  have hwl := wall_holds (g := (⟨gx, gy, gz⟩ : V3)) (t := (⟨ux, gy, gz⟩ : V3)) (r := r) (b := bN) HG42.out HGU.out (by dsimp only; have b := HBX.out; omega) rfl rfl HRB.out HBX.out.1
  rw [hgr] at hwl
  dsimp only at hwl
  rw [hq0, hq1, hpx] at hwl
  have h2 := hold_small r [(⟨[⟨px, fy, fz⟩], [], [], 5⟩ : Cr)] i1.1 i1.2.2
  rw [hwl, if_pos rfl] at h2
  have HC2 : Hid _ := fun (lv : Value) (fl : Bool) (w' : World) h3 h4 h5 => hold_any (⟨gx, gy, gz⟩ : V3) (⟨ux, gy, gz⟩ : V3) r [(⟨[⟨px, fy, fz⟩], [], [], 5⟩ : Cr)] lv fb fl w' h3 h4 h5 (by have := i1.1; unfold V3.in45 at this; unfold V3.i64; dsimp only at *; omega) (by have := i1.2.2; unfold V3.in45 at this; unfold V3.i64; dsimp only at *; omega)
  rw [h2.1, h2.2] at HC2
  have HW1 : Hid _ := fun w' => rway_ok (f := (⟨gx, gy, gz⟩ : V3)) (t := (⟨ux, gy, gz⟩ : V3)) (V3.m42.wide (v := (⟨gx, gy, gz⟩ : V3)) HG42.out) HGU.out HRB.out w'
  rw [hgr] at HW1
  dsimp only [V3.val] at HC2 HW1
  obtain ⟨⟨wx, wq, wz⟩, hwy⟩ : ∃ p, wayZ (⟨gx, gy, gz⟩ : V3) (⟨ux, gy, gz⟩ : V3) = p := ⟨_, rfl⟩
  rw [hwy] at HW1
  have CS : Hid (CW X _ _) := CS.out.step HBV.out
  have CG : Hid (CW X _ _) := CG.out.step HBV.out
  have CT : Hid (CW X _ _) := CT.out.step HBV.out
  have HBX9 : Hid (Below w0.heap.size w0 X) := b_step HB.out HBV.out
  have HTB : Hid (w0.heap.size ≤ tb) := HTB0.out
  clear HH HLC HOK HL3 HUC i1 h1 h2 e1 hc1 hgr hq0 hq1 hpx hfb hwl hwy HGU HG42 HN38 HRB HBX hux HB
  have g0_ := (CG.out 0 _ rfl).1
  have g1_ := (CG.out 1 _ rfl).1
  have g2_ := (CG.out 2 _ rfl).1
  have t0 := (CT.out 0 _ rfl).1
  have t1 := (CT.out 1 _ rfl).1
  have t2 := (CT.out 2 _ rfl).1
  go_wp2_with (fail)
  refine Calls.mono HC1.out ?_
  rintro e W1 ⟨rfl, HA⟩
  have HA : Hid (After ⟨fb, 0, none⟩ false X W1) := HFL.out.trans HA.out
  have HB1 : Hid (Below w0.heap.size w0 W1) := HA.out.on HBX9.out HFB0.out
  have CS : Hid (CW _ _ _) := CS.out.after HA.out HNE.out.2.2
  have CG : Hid (CW _ _ _) := CG.out.after HA.out HNE.out.1
  have CT : Hid (CW _ _ _) := CT.out.after HA.out HNE.out.2.1
  have CF : Hid (CW W1 fb [.bool false]) := cw_flag HA.out.cell HA.out.frozen
  clear HA HC1 HFL HBX9 g0_ g1_ g2_ t0 t1 t2
  obtain ⟨W2, hW2⟩ : ∃ X, X = W1.alloc (.cells #[.int .i64 tx, .int .i64 ty, .int .i64 tz] 23) := ⟨_, rfl⟩
  obtain ⟨ab, hab⟩ : ∃ x, x = W1.heap.size := ⟨_, rfl⟩
  have kb : Below W1.heap.size W1 W2 := by rw [hW2]; exact n_after _ _
  have CA : Hid (CW W2 ab [.int .i64 tx, .int .i64 ty, .int .i64 tz]) := by show CW _ _ _; rw [hW2, hab]; exact CW.new W1 [.int .i64 tx, .int .i64 ty, .int .i64 tz] 23
  have HB2 : Hid (Below w0.heap.size w0 W2) := b_step HB1.out kb
  have CS : Hid (CW _ _ _) := CS.out.step kb
  have CG : Hid (CW _ _ _) := CG.out.step kb
  have CT : Hid (CW _ _ _) := CT.out.step kb
  have CF : Hid (CW _ _ _) := CF.out.step kb
  clear kb HB1
  go_upto_region 5 with fail
  rw [← hW2, ← hab]
  clear hW2 hab
  have a0_ := (CA.out 0 _ rfl).1
  have a1_ := (CA.out 1 _ rfl).1
  have a2_ := (CA.out 2 _ rfl).1
  have t0 := (CT.out 0 _ rfl).1
  have t1 := (CT.out 1 _ rfl).1
  have t2 := (CT.out 2 _ rfl).1
  go_upto_region 7 with fail
  clear a0_ a1_ a2_ t0 t1 t2 CA
  have gq0 := (CG.out 0 _ rfl).1
  have gq1 := (CG.out 1 _ rfl).1
  have gq2 := (CG.out 2 _ rfl).1
  have x3 := (CS.out 3 _ rfl).1
  obtain ⟨t0, tf0⟩ := CT.out 0 _ rfl
  obtain ⟨t1, tf1⟩ := CT.out 1 _ rfl
  obtain ⟨t2, tf2⟩ := CT.out 2 _ rfl
  have w_u := HUW.out
  refine RV.region_by (fun j v w => match j with | 0 => v = .pointer (some ⟨gb, 0, none⟩) | 1 => v = .int .i64 (gx) | 2 => v = .pointer (some ⟨sb, 3, none⟩) | 3 => v = .pointer (some ⟨sb, 3, none⟩) | 4 => v = .int .i64 (yv.x) | 5 => v = .int .i64 (xN) | 6 => v = .int .i64 (ux) | 7 => v = .pointer (some ⟨gb, 1, none⟩) | 8 => v = .int .i64 (gy) | 9 => v = .pointer (some ⟨gb, 2, none⟩) | 10 => v = .int .i64 (gz) | 11 => v = .agg #[.int .i64 (ux), .int .i64 (gy), .int .i64 (gz)] | 12 => True | _ => True) (fun γ L w9 => (L 12 = false ∧ Below W2.heap.size W2 w9) ∨ (L 12 = true ∧ ∃ w, Below W2.heap.size W2 w ∧ w9 = (((w.setCell ⟨tb, 0, none⟩ (.int .i64 (ux))).setCell ⟨tb, 1, none⟩ (.int .i64 (gy))).setCell ⟨tb, 2, none⟩ (.int .i64 (gz))))) (by kernel_rfl) (by kernel_rfl) (by kernel_rfl) (by kernel_rfl) ?_ ?_ ?_
  · exact Or.inl ⟨rfl, (Below.refl _ W2).drew⟩
  · generalize hD : dstOf _ = D
    generalize hWA : waitsFor _ = WA
    generalize hZ : Act.mk _ _ = Z
    obtain ⟨R, hR⟩ : ∃ R : Nat → Value → World → Prop, R = (fun j v w => match j with | 0 => v = .pointer (some ⟨gb, 0, none⟩) | 1 => v = .int .i64 (gx) | 2 => v = .pointer (some ⟨sb, 3, none⟩) | 3 => v = .pointer (some ⟨sb, 3, none⟩) | 4 => v = .int .i64 (yv.x) | 5 => v = .int .i64 (xN) | 6 => v = .int .i64 (ux) | 7 => v = .pointer (some ⟨gb, 1, none⟩) | 8 => v = .int .i64 (gy) | 9 => v = .pointer (some ⟨gb, 2, none⟩) | 10 => v = .int .i64 (gz) | 11 => v = .agg #[.int .i64 (ux), .int .i64 (gy), .int .i64 (gz)] | 12 => True | _ => True) := ⟨_, rfl⟩
    rw [← hR]
    have d0 : D 0 = some 49 := by rw [← hD]; rfl
    have d1 : D 1 = some 50 := by rw [← hD]; rfl
    have d2 : D 2 = some 51 := by rw [← hD]; rfl
    have d3 : D 3 = some 52 := by rw [← hD]; rfl
    have d4 : D 4 = some 53 := by rw [← hD]; rfl
    have d5 : D 5 = some 54 := by rw [← hD]; rfl
    have d6 : D 6 = some 55 := by rw [← hD]; rfl
    have d7 : D 7 = some 56 := by rw [← hD]; rfl
    have d8 : D 8 = some 57 := by rw [← hD]; rfl
    have d9 : D 9 = some 58 := by rw [← hD]; rfl
    have d10 : D 10 = some 59 := by rw [← hD]; rfl
    have d11 : D 11 = some 60 := by rw [← hD]; rfl
    have r0 : ∀ v w, R 0 v w = (v = .pointer (some ⟨gb, 0, none⟩)) := fun v w => by rw [hR]; rfl
    have r1 : ∀ v w, R 1 v w = (v = .int .i64 (gx)) := fun v w => by rw [hR]; rfl
    have r2 : ∀ v w, R 2 v w = (v = .pointer (some ⟨sb, 3, none⟩)) := fun v w => by rw [hR]; rfl
    have r3 : ∀ v w, R 3 v w = (v = .pointer (some ⟨sb, 3, none⟩)) := fun v w => by rw [hR]; rfl
    have r4 : ∀ v w, R 4 v w = (v = .int .i64 (yv.x)) := fun v w => by rw [hR]; rfl
    have r5 : ∀ v w, R 5 v w = (v = .int .i64 (xN)) := fun v w => by rw [hR]; rfl
    have r6 : ∀ v w, R 6 v w = (v = .int .i64 (ux)) := fun v w => by rw [hR]; rfl
    have r7 : ∀ v w, R 7 v w = (v = .pointer (some ⟨gb, 1, none⟩)) := fun v w => by rw [hR]; rfl
    have r8 : ∀ v w, R 8 v w = (v = .int .i64 (gy)) := fun v w => by rw [hR]; rfl
    have r9 : ∀ v w, R 9 v w = (v = .pointer (some ⟨gb, 2, none⟩)) := fun v w => by rw [hR]; rfl
    have r10 : ∀ v w, R 10 v w = (v = .int .i64 (gz)) := fun v w => by rw [hR]; rfl
    have r11 : ∀ v w, R 11 v w = (v = .agg #[.int .i64 (ux), .int .i64 (gy), .int .i64 (gz)]) := fun v w => by rw [hR]; rfl
    have r12 : ∀ v w, R 12 v w = (True) := fun v w => by rw [hR]; rfl
    have E2 : ∀ (γ : Nat → Value) (L : Nat → Bool) (a : Act) (w : World), RV.Held D WA R (fun γ L w9 => (L 12 = false ∧ Below W2.heap.size W2 w9) ∨ (L 12 = true ∧ ∃ w, Below W2.heap.size W2 w ∧ w9 = (((w.setCell ⟨tb, 0, none⟩ (.int .i64 (ux))).setCell ⟨tb, 1, none⟩ (.int .i64 (gy))).setCell ⟨tb, 2, none⟩ (.int .i64 (gz))))) Z γ L a w → a.tmps[2]? = some (.pointer (some ⟨sb, 0, none⟩)) := fun γ L a w hH => (hH.rest 2 (by rw [← hD]; exact RV.dst_free (by kernel_rfl))).trans (by rw [← hZ]; rfl)
    have E6 : ∀ (γ : Nat → Value) (L : Nat → Bool) (a : Act) (w : World), RV.Held D WA R (fun γ L w9 => (L 12 = false ∧ Below W2.heap.size W2 w9) ∨ (L 12 = true ∧ ∃ w, Below W2.heap.size W2 w ∧ w9 = (((w.setCell ⟨tb, 0, none⟩ (.int .i64 (ux))).setCell ⟨tb, 1, none⟩ (.int .i64 (gy))).setCell ⟨tb, 2, none⟩ (.int .i64 (gz))))) Z γ L a w → a.tmps[6]? = some (.pointer (some ⟨gb, 0, none⟩)) := fun γ L a w hH => (hH.rest 6 (by rw [← hD]; exact RV.dst_free (by kernel_rfl))).trans (by rw [← hZ]; rfl)
    have E7 : ∀ (γ : Nat → Value) (L : Nat → Bool) (a : Act) (w : World), RV.Held D WA R (fun γ L w9 => (L 12 = false ∧ Below W2.heap.size W2 w9) ∨ (L 12 = true ∧ ∃ w, Below W2.heap.size W2 w ∧ w9 = (((w.setCell ⟨tb, 0, none⟩ (.int .i64 (ux))).setCell ⟨tb, 1, none⟩ (.int .i64 (gy))).setCell ⟨tb, 2, none⟩ (.int .i64 (gz))))) Z γ L a w → a.tmps[7]? = some (.pointer (some ⟨tb, 0, none⟩)) := fun γ L a w hH => (hH.rest 7 (by rw [← hD]; exact RV.dst_free (by kernel_rfl))).trans (by rw [← hZ]; rfl)
    have K : ∀ j v w w', R j v w → R j v w' := by rw [hR]; intro j v w w' h; exact h
    have A_12_1 : WA 12 1 := by rw [← hWA]; exact ⟨_, rfl, ⟨1, .phase⟩, by simp, rfl, rfl⟩
    have A_12_4 : WA 12 4 := by rw [← hWA]; exact ⟨_, rfl, ⟨4, .phase⟩, by simp, rfl, rfl⟩
    have A_12_5 : WA 12 5 := by rw [← hWA]; exact ⟨_, rfl, ⟨5, .phase⟩, by simp, rfl, rfl⟩
    have A_12_8 : WA 12 8 := by rw [← hWA]; exact ⟨_, rfl, ⟨8, .phase⟩, by simp, rfl, rfl⟩
    have A_12_10 : WA 12 10 := by rw [← hWA]; exact ⟨_, rfl, ⟨10, .phase⟩, by simp, rfl, rfl⟩
    clear hD hWA hZ hR
    refine RV.AllDo.cons 0 (RV.does_pure (fun γ v L w hl h => by rw [RV.more_ne (L := L) (i := 0) (j := 12) (by decide)]; exact h) (fun γ L a w hH hl hA => by have e0 := E6 γ L a w hH; exact ⟨.pointer (some ⟨gb, 0, none⟩), by simp [execOp, go_sem, e0], (r0 _ _).mpr rfl⟩)) ?_
    refine RV.AllDo.cons 1 (RV.does_pure (fun γ v L w hl h => by rw [RV.more_ne (L := L) (i := 1) (j := 12) (by decide)]; exact h) (fun γ L a w hH hl hA => by have l0 : L 0 = true := hA ⟨0, .data⟩ (by simp) rfl; have e0 := hH.slot 0 49 d0 l0; have g0 := hH.holds 0 l0; rw [r0] at g0; rw [g0] at e0; have hB9 := early9 hH.glob (RV.not_yet hH A_12_1 hl); have z0 := c_after hB9 gq0; exact ⟨.int .i64 (gx), by simp [execOp, go_sem, e0, z0], (r1 _ _).mpr rfl⟩)) ?_
    refine RV.AllDo.cons 2 (RV.does_pure (fun γ v L w hl h => by rw [RV.more_ne (L := L) (i := 2) (j := 12) (by decide)]; exact h) (fun γ L a w hH hl hA => by have e0 := E2 γ L a w hH; exact ⟨.pointer (some ⟨sb, 3, none⟩), by simp [execOp, go_sem, e0], (r2 _ _).mpr rfl⟩)) ?_
    refine RV.AllDo.cons 3 (RV.does_pure (fun γ v L w hl h => by rw [RV.more_ne (L := L) (i := 3) (j := 12) (by decide)]; exact h) (fun γ L a w hH hl hA => by have l0 : L 2 = true := hA ⟨2, .data⟩ (by simp) rfl; have e0 := hH.slot 2 51 d2 l0; have g0 := hH.holds 2 l0; rw [r2] at g0; rw [g0] at e0; exact ⟨.pointer (some ⟨sb, 3, none⟩), by simp [execOp, go_sem, e0], (r3 _ _).mpr rfl⟩)) ?_
    refine RV.AllDo.cons 4 (RV.does_pure (fun γ v L w hl h => by rw [RV.more_ne (L := L) (i := 4) (j := 12) (by decide)]; exact h) (fun γ L a w hH hl hA => by have l0 : L 3 = true := hA ⟨3, .data⟩ (by simp) rfl; have e0 := hH.slot 3 52 d3 l0; have g0 := hH.holds 3 l0; rw [r3] at g0; rw [g0] at e0; have hB9 := early9 hH.glob (RV.not_yet hH A_12_4 hl); have z0 := c_after hB9 x3; exact ⟨.int .i64 (yv.x), by simp [execOp, go_sem, e0, z0], (r4 _ _).mpr rfl⟩)) ?_
    refine RV.AllDo.cons 5 (RV.does_call (fun γ L a w hH hl hA => by have l0 : L 4 = true := hA ⟨4, .data⟩ (by simp) rfl; have e0 := hH.slot 4 53 d4 l0; have g0 := hH.holds 4 l0; rw [r4] at g0; rw [g0] at e0; have hB9 := early9 hH.glob (RV.not_yet hH A_12_5 hl); exact ⟨19, #[.int .i64 (yv.x), .int .i64 (274877906944)], by simp [go_sem, e0], Calls.mono (HPX.out w) (by rintro e w2 ⟨rfl, hb⟩; exact ⟨_, rfl, (r5 _ _).mpr rfl, fun j v _ h => K j v _ _ h, Or.inl ⟨by rw [RV.more_ne (L := L) (i := 5) (j := 12) (by decide)]; exact RV.not_yet hH A_12_5 hl, hB9.trans (hb.mono hB9.size)⟩⟩)⟩)) ?_
    refine RV.AllDo.cons 6 (RV.does_pure (fun γ v L w hl h => by rw [RV.more_ne (L := L) (i := 6) (j := 12) (by decide)]; exact h) (fun γ L a w hH hl hA => by have l0 : L 1 = true := hA ⟨1, .data⟩ (by simp) rfl; have e0 := hH.slot 1 50 d1 l0; have g0 := hH.holds 1 l0; rw [r1] at g0; rw [g0] at e0; have l1 : L 5 = true := hA ⟨5, .data⟩ (by simp) rfl; have e1 := hH.slot 5 54 d5 l1; have g1 := hH.holds 5 l1; rw [r5] at g1; rw [g1] at e1; exact ⟨.int .i64 (ux), by simp [execOp, go_sem, e0, e1, w_u], (r6 _ _).mpr rfl⟩)) ?_
    refine RV.AllDo.cons 7 (RV.does_pure (fun γ v L w hl h => by rw [RV.more_ne (L := L) (i := 7) (j := 12) (by decide)]; exact h) (fun γ L a w hH hl hA => by have e0 := E6 γ L a w hH; exact ⟨.pointer (some ⟨gb, 1, none⟩), by simp [execOp, go_sem, e0], (r7 _ _).mpr rfl⟩)) ?_
    refine RV.AllDo.cons 8 (RV.does_pure (fun γ v L w hl h => by rw [RV.more_ne (L := L) (i := 8) (j := 12) (by decide)]; exact h) (fun γ L a w hH hl hA => by have l0 : L 7 = true := hA ⟨7, .data⟩ (by simp) rfl; have e0 := hH.slot 7 56 d7 l0; have g0 := hH.holds 7 l0; rw [r7] at g0; rw [g0] at e0; have hB9 := early9 hH.glob (RV.not_yet hH A_12_8 hl); have z0 := c_after hB9 gq1; exact ⟨.int .i64 (gy), by simp [execOp, go_sem, e0, z0], (r8 _ _).mpr rfl⟩)) ?_
    refine RV.AllDo.cons 9 (RV.does_pure (fun γ v L w hl h => by rw [RV.more_ne (L := L) (i := 9) (j := 12) (by decide)]; exact h) (fun γ L a w hH hl hA => by have e0 := E6 γ L a w hH; exact ⟨.pointer (some ⟨gb, 2, none⟩), by simp [execOp, go_sem, e0], (r9 _ _).mpr rfl⟩)) ?_
    refine RV.AllDo.cons 10 (RV.does_pure (fun γ v L w hl h => by rw [RV.more_ne (L := L) (i := 10) (j := 12) (by decide)]; exact h) (fun γ L a w hH hl hA => by have l0 : L 9 = true := hA ⟨9, .data⟩ (by simp) rfl; have e0 := hH.slot 9 58 d9 l0; have g0 := hH.holds 9 l0; rw [r9] at g0; rw [g0] at e0; have hB9 := early9 hH.glob (RV.not_yet hH A_12_10 hl); have z0 := c_after hB9 gq2; exact ⟨.int .i64 (gz), by simp [execOp, go_sem, e0, z0], (r10 _ _).mpr rfl⟩)) ?_
    refine RV.AllDo.cons 11 (RV.does_pure (fun γ v L w hl h => by rw [RV.more_ne (L := L) (i := 11) (j := 12) (by decide)]; exact h) (fun γ L a w hH hl hA => by have l0 : L 6 = true := hA ⟨6, .data⟩ (by simp) rfl; have e0 := hH.slot 6 55 d6 l0; have g0 := hH.holds 6 l0; rw [r6] at g0; rw [g0] at e0; have l1 : L 8 = true := hA ⟨8, .data⟩ (by simp) rfl; have e1 := hH.slot 8 57 d8 l1; have g1 := hH.holds 8 l1; rw [r8] at g1; rw [g1] at e1; have l2 : L 10 = true := hA ⟨10, .data⟩ (by simp) rfl; have e2 := hH.slot 10 59 d10 l2; have g2 := hH.holds 10 l2; rw [r10] at g2; rw [g2] at e2; exact ⟨.agg #[.int .i64 (ux), .int .i64 (gy), .int .i64 (gz)], by simp [execOp, go_sem, e0, e1, e2], (r11 _ _).mpr rfl⟩)) ?_
    refine RV.AllDo.cons 12 (RV.does_store (fun γ L a w hH hl hA => by have e0 := E7 γ L a w hH; have l1 : L 11 = true := hA ⟨11, .data⟩ (by simp) rfl; have e1 := hH.slot 11 60 d11 l1; have g1 := hH.holds 11 l1; rw [r11] at g1; rw [g1] at e1; have hB9 := early9 hH.glob hl; have z0 := c_after hB9 t0; have zf0 := f_after hB9 t0 tf0; have z1 := c_after hB9 t1; have zf1 := f_after hB9 t1 tf1; have z2 := c_after hB9 t2; have zf2 := f_after hB9 t2 tf2; exact ⟨(((w.setCell ⟨tb, 0, none⟩ (.int .i64 (ux))).setCell ⟨tb, 1, none⟩ (.int .i64 (gy))).setCell ⟨tb, 2, none⟩ (.int .i64 (gz))), by simp [execOp, go_sem, e0, e1, z0, zf0, z1, zf1, z2, zf2], (r12 _ _).mpr trivial, fun j v _ h => K j v _ _ h, Or.inr ⟨RV.more_self, w, hB9, rfl⟩⟩)) ?_
    exact RV.AllDo.nil
  · intro γ a5 w5 L9 hL hLo hH
    have ha := RV.held_act hH hL (by kernel_rfl) (by kernel_rfl)
    obtain ⟨w8, hb8, rfl⟩ := late9 hH.glob (hL 12 (by decide))
    have y0 : γ 0 = .pointer (some ⟨gb, 0, none⟩) := hH.holds 0 (hL 0 (by decide))
    have y1 : γ 1 = .int .i64 (gx) := hH.holds 1 (hL 1 (by decide))
    have y2 : γ 2 = .pointer (some ⟨sb, 3, none⟩) := hH.holds 2 (hL 2 (by decide))
    have y3 : γ 3 = .pointer (some ⟨sb, 3, none⟩) := hH.holds 3 (hL 3 (by decide))
    have y4 : γ 4 = .int .i64 (yv.x) := hH.holds 4 (hL 4 (by decide))
    have y5 : γ 5 = .int .i64 (xN) := hH.holds 5 (hL 5 (by decide))
    have y6 : γ 6 = .int .i64 (ux) := hH.holds 6 (hL 6 (by decide))
    have y7 : γ 7 = .pointer (some ⟨gb, 1, none⟩) := hH.holds 7 (hL 7 (by decide))
    have y8 : γ 8 = .int .i64 (gy) := hH.holds 8 (hL 8 (by decide))
    have y9 : γ 9 = .pointer (some ⟨gb, 2, none⟩) := hH.holds 9 (hL 9 (by decide))
    have y10 : γ 10 = .int .i64 (gz) := hH.holds 10 (hL 10 (by decide))
    have y11 : γ 11 = .agg #[.int .i64 (ux), .int .i64 (gy), .int .i64 (gz)] := hH.holds 11 (hL 11 (by decide))
    rw [ha]
    clear ha hH hL hLo
    simp only [RV.putAll, Act.put, List.setIfInBounds_toArray, List.set_cons_zero, List.set_cons_succ, Nat.zero_add, Nat.reduceAdd, y0, y1, y2, y3, y4, y5, y6, y7, y8, y9, y10, y11]
    clear y0 y1 y2 y3 y4 y5 y6 y7 y8 y9 y10 y11
    have HZ : Hid _ := hb8
    clear t0 t1 t2 tf0 tf1 tf2 x3 w_u gq0 gq1 gq2
    obtain ⟨Z, hZ⟩ : ∃ V, V = ((w8.setCell ⟨tb, 0, none⟩ (.int .i64 ux)).setCell ⟨tb, 1, none⟩ (.int .i64 gy)).setCell ⟨tb, 2, none⟩ (.int .i64 gz) := ⟨_, rfl⟩
    have CG : Hid (CW Z gb [.int .i64 gx, .int .i64 gy, .int .i64 gz]) := by show CW _ _ _; rw [hZ]; exact cw_put3 (CG.out.step HZ.out) HGT.out _ _ _
    have CF : Hid (CW Z fb [.bool false]) := by show CW _ _ _; rw [hZ]; exact cw_put3 (CF.out.step HZ.out) (Ne.symm HNE.out.2.1) _ _ _
    have CT : Hid (CW Z tb [.int .i64 ux, .int .i64 gy, .int .i64 gz]) := by show CW _ _ _; rw [hZ]; exact cw_own3 (CT.out.step HZ.out) _ _ _
    have HB3 : Hid (Below w0.heap.size w0 Z) := by show Below _ _ _; rw [hZ]; exact (((b_step HB2.out HZ.out).setCell HTB.out _).setCell HTB.out _).setCell HTB.out _
    rw [← hZ]
    clear hZ HZ HB2 CS
    have g0 := (CG.out 0 _ rfl).1
    have g1 := (CG.out 1 _ rfl).1
    have g2 := (CG.out 2 _ rfl).1
    have t0 := (CT.out 0 _ rfl).1
    have t1 := (CT.out 1 _ rfl).1
    have t2 := (CT.out 2 _ rfl).1
    go_wp2_with (fail)
    refine Calls.mono (HW1.out _) ?_
    rintro e W3 ⟨s1, rfl, HZ⟩
    obtain ⟨W4a, hW4a⟩ : ∃ X, X = W3.alloc (.cells #[.slice (some ⟨s1, 0, none⟩) 1 1, .slice none 0 0, .slice none 0 0, .int .i64 r] 28) := ⟨_, rfl⟩
    obtain ⟨cb1, hcb1⟩ : ∃ x, x = W3.heap.size := ⟨_, rfl⟩
    have kb : Below W3.heap.size W3 W4a := by rw [hW4a]; exact n_after _ _
    have CB1 : Hid (CW W4a cb1 [.slice (some ⟨s1, 0, none⟩) 1 1, .slice none 0 0, .slice none 0 0, .int .i64 r]) := by show CW _ _ _; rw [hW4a, hcb1]; exact CW.new W3 [.slice (some ⟨s1, 0, none⟩) 1 1, .slice none 0 0, .slice none 0 0, .int .i64 r] 28
    have kb1 := kb
    obtain ⟨W4, hW4⟩ : ∃ X, X = W4a.alloc (.cells #[.int .i64 wx, .int .i64 wq, .int .i64 wz] 45) := ⟨_, rfl⟩
    obtain ⟨yb1, hyb1⟩ : ∃ x, x = W3.heap.size + 1 := ⟨_, rfl⟩
    have kb : Below W4a.heap.size W4a W4 := by rw [hW4]; exact n_after _ _
    have CY1 : Hid (CW W4 yb1 [.int .i64 wx, .int .i64 wq, .int .i64 wz]) := by show CW _ _ _; rw [hW4, hyb1]; have hz : W4a.heap.size = W3.heap.size + 1 := (by rw [hW4a, World.size_alloc]); rw [← hz]; exact CW.new W4a [.int .i64 wx, .int .i64 wq, .int .i64 wz] 45
    have kb2 := b_step HZ.out.2 (b_step kb1 kb)
    have CB1 : Hid (CW _ _ _) := CB1.out.step kb
    have LS1 : Hid (Lies W4 (.slice (some ⟨s1, 0, none⟩) 1 1) [⟨fx, fy, fz⟩]) := HZ.out.1.below (b_step kb1 kb)
    have HB4 : Hid (Below w0.heap.size w0 W4) := b_step HB3.out kb2
    have CG : Hid (CW _ _ _) := CG.out.step kb2
    have CT : Hid (CW _ _ _) := CT.out.step kb2
    have CF : Hid (CW _ _ _) := CF.out.step kb2
    clear kb kb1 kb2 HZ HW1 HB3 g0 g1 g2 t0 t1 t2 CY1
    go_upto_region 9 with fail
    rw [← hyb1, ← hcb1, ← hW4a, ← hW4]
    clear hW4a hcb1 hW4 hyb1
    have b0 := (CB1.out 0 _ rfl).1
    obtain ⟨e0, e1, e2⟩ := lies_one_at LS1.out
    obtain ⟨W5, hW5⟩ : ∃ X, X = W4.alloc (.cells #[.int .i64 fx, .int .i64 fy, .int .i64 fz] 45) := ⟨_, rfl⟩
    obtain ⟨pb, hpb⟩ : ∃ x, x = W4.heap.size := ⟨_, rfl⟩
    have kb : Below W4.heap.size W4 W5 := by rw [hW5]; exact n_after _ _
    have CP : Hid (CW W5 pb [.int .i64 fx, .int .i64 fy, .int .i64 fz]) := by show CW _ _ _; rw [hW5, hpb]; exact CW.new W4 [.int .i64 fx, .int .i64 fy, .int .i64 fz] 45
    have HB5 : Hid (Below w0.heap.size w0 W5) := b_step HB4.out kb
    have CG : Hid (CW _ _ _) := CG.out.step kb
    have CT : Hid (CW _ _ _) := CT.out.step kb
    have CF : Hid (CW _ _ _) := CF.out.step kb
    clear kb HB4
    go_upto_region 10 with fail
    rw [← hpb, ← hW5]
    clear hpb hW5 b0 e0 e1 e2 LS1 CB1
    have p0 := (CP.out 0 _ rfl).1
    have p1 := (CP.out 1 _ rfl).1
    have p2 := (CP.out 2 _ rfl).1
    obtain ⟨w_1, w_2, w_3⟩ := HWQ.out
    refine RV.rs [.some (.pointer (some ⟨pb, 0, none⟩)), .some (.int .i64 fx), .some (.int .i64 r), .some (.int .i64 q0), .some (.int .i64 q1), .some (.int .i64 a1), .some (.int .i64 bN), .some (.int .i64 px), .some (.pointer (some ⟨pb, 1, none⟩)), .some (.int .i64 fy), .some (.pointer (some ⟨pb, 2, none⟩)), .some (.int .i64 fz), .some (.agg #[.int .i64 px, .int .i64 fy, .int .i64 fz]), none, none, none, none] [74, 75, 76, 77, 78, 79, 80, 81, 82, 83, 84, 85, 86, 87, 88, 18, 0] [(1, .int .i64 a1), (8, .int .i64 r), (16, .pointer (some ⟨pb, 0, none⟩))] (fun γ L w => WB W5 #[.int .i64 px, .int .i64 fy, .int .i64 fz] (.int .i64 5) 13 14 15 16 γ L w) ⟨rfl, rfl, rfl, trivial⟩ WB.start ?_ ?_
    · intro D WA Z9 hD hWA hZ T
      simp only [RV.Outs, RV.Slots, Nat.reduceAdd] at T
      (refine RV.AllDo.cons _ (RV.pu T (fun γ v L w hl h => h.other _ (by decide) (by decide) (by decide) (by decide)) (fun γ L a w hH hl h9 k9 => ⟨_, ?_, rfl⟩)) ?_; · simp [execOp, go_sem, h9])
      (refine RV.AllDo.cons _ (RV.pu T (fun γ v L w hl h => h.other _ (by decide) (by decide) (by decide) (by decide)) (fun γ L a w hH hl h9 k9 => ⟨_, ?_, rfl⟩)) ?_; · have p9 := c_after hH.glob.below p0; simp [Region.binds] at k9; simp [execOp, go_sem, h9, k9, p9])
      (refine RV.AllDo.cons _ (RV.pu T (fun γ v L w hl h => h.other _ (by decide) (by decide) (by decide) (by decide)) (fun γ L a w hH hl h9 k9 => ⟨_, ?_, rfl⟩)) ?_; · simp [execOp, go_sem, h9])
      (refine RV.AllDo.cons _ (RV.pu T (fun γ v L w hl h => h.other _ (by decide) (by decide) (by decide) (by decide)) (fun γ L a w hH hl h9 k9 => ⟨_, ?_, rfl⟩)) ?_; · simp [Region.binds] at k9; simp [execOp, go_sem, h9, k9, w_1])
      (refine RV.AllDo.cons _ (RV.pu T (fun γ v L w hl h => h.other _ (by decide) (by decide) (by decide) (by decide)) (fun γ L a w hH hl h9 k9 => ⟨_, ?_, rfl⟩)) ?_; · simp [Region.binds] at k9; simp [execOp, go_sem, h9, k9, w_2])
      (refine RV.AllDo.cons _ (RV.pu T (fun γ v L w hl h => h.other _ (by decide) (by decide) (by decide) (by decide)) (fun γ L a w hH hl h9 k9 => ⟨_, ?_, rfl⟩)) ?_; · simp [execOp, go_sem, h9])
      refine RV.AllDo.cons _ (RV.does_call (fun γ L a w hH hl hA => by have h9 := T γ L a w hH; have k9 := hA; simp [Region.binds] at k9; exact ⟨_, _, by simp [go_sem, h9, k9], Calls.mono (HPB.out w) (by rintro e w2 ⟨rfl, ha⟩; exact ⟨_, rfl, rfl, fun j v _ h => h.keep _, hH.glob.come _ ha (by decide) (by decide) (by decide) (by decide)⟩)⟩)) ?_
      (refine RV.AllDo.cons _ (RV.pu T (fun γ v L w hl h => h.other _ (by decide) (by decide) (by decide) (by decide)) (fun γ L a w hH hl h9 k9 => ⟨_, ?_, rfl⟩)) ?_; · simp [Region.binds] at k9; simp [execOp, go_sem, h9, k9, w_3])
      (refine RV.AllDo.cons _ (RV.pu T (fun γ v L w hl h => h.other _ (by decide) (by decide) (by decide) (by decide)) (fun γ L a w hH hl h9 k9 => ⟨_, ?_, rfl⟩)) ?_; · simp [execOp, go_sem, h9])
      (refine RV.AllDo.cons _ (RV.pu T (fun γ v L w hl h => h.other _ (by decide) (by decide) (by decide) (by decide)) (fun γ L a w hH hl h9 k9 => ⟨_, ?_, rfl⟩)) ?_; · have p9 := c_after hH.glob.below p1; simp [Region.binds] at k9; simp [execOp, go_sem, h9, k9, p9])
      (refine RV.AllDo.cons _ (RV.pu T (fun γ v L w hl h => h.other _ (by decide) (by decide) (by decide) (by decide)) (fun γ L a w hH hl h9 k9 => ⟨_, ?_, rfl⟩)) ?_; · simp [execOp, go_sem, h9])
      (refine RV.AllDo.cons _ (RV.pu T (fun γ v L w hl h => h.other _ (by decide) (by decide) (by decide) (by decide)) (fun γ L a w hH hl h9 k9 => ⟨_, ?_, rfl⟩)) ?_; · have p9 := c_after hH.glob.below p2; simp [Region.binds] at k9; simp [execOp, go_sem, h9, k9, p9])
      (refine RV.AllDo.cons _ (RV.pu T (fun γ v L w hl h => h.other _ (by decide) (by decide) (by decide) (by decide)) (fun γ L a w hH hl h9 k9 => ⟨_, ?_, rfl⟩)) ?_; · simp [Region.binds] at k9; simp [execOp, go_sem, h9, k9])
      refine RV.AllDo.cons _ (RV.does_step (fun γ L a w hH hl hA => by have h9 := T γ L a w hH; have k9 := hA; simp [Region.binds] at k9; exact ⟨.slice (some ⟨w.heap.size, 0, none⟩) 1 1, w.alloc (.cells #[.int .i64 px, .int .i64 fy, .int .i64 fz] 45), by simp [execOp, go_sem, h9, k9], trivial, fun j v _ h => h.keep _, hH.glob.lay (by decide) (by decide) (by decide)⟩)) ?_
      refine RV.AllDo.cons _ (RV.does_step (fun γ L a w hH hl hA => by have l0 : L 13 = true := hA ⟨13, .data⟩ (by simp) rfl; have e0 := hH.slot 13 86 (by rw [← hD]; rfl) l0; obtain ⟨g, e1, e2⟩ := hH.glob.sl l0; rw [e1] at e0; exact ⟨_, w, by simp [execOp, go_sem, e0], trivial, fun j v _ h => h, hH.glob.put e2 (RV.not_yet hH (RV.wt (j := 16) (i := 14) hWA (by kernel_rfl)) hl) (by decide) (by decide) (by decide)⟩)) ?_
      refine RV.AllDo.cons _ (RV.does_step (fun γ L a w hH hl hA => ⟨.pointer (some ⟨w.heap.size, 0, none⟩), w.alloc (.cells #[.slice none 0 0, .slice none 0 0, .slice none 0 0, .int .i64 0] 28), by simp [execOp, go_sem], trivial, fun j v _ h => h.keep _, hH.glob.made (RV.not_yet hH (RV.wt (j := 16) (i := 15) hWA (by kernel_rfl)) hl) rfl (by decide) (by decide) (by decide)⟩)) ?_
      refine RV.AllDo.cons _ (RV.does_store (fun γ L a w hH hl hA => by have l0 : L 15 = true := hA ⟨15, .data⟩ (by simp) rfl; have l1 : L 14 = true := hA ⟨14, .data⟩ (by simp) rfl; have e0 := hH.slot 15 17 (by rw [← hD]; rfl) l0; have e1 := hH.slot 14 87 (by rw [← hD]; rfl) l1; obtain ⟨g, b, g1, g2, g3, g5⟩ := hH.glob.spot l1 l0; rw [g1] at e1; rw [g2] at e0; exact ⟨_, exec_store_all 28 _ _ rfl b 0 #[.slice (some ⟨g, 0, none⟩) 1 1, .slice none 0 0, .slice none 0 0, .int .i64 5] (by simp [Act.eval, e0]) (by simp [Act.eval, e1]) g3 (by kernel_rfl) (by simp only [List.all_toArray, List.all_cons, List.all_nil, Value.oneCell', Bool.and_self]), trivial, fun j v _ h => h.keep _, g5 (by decide) (by decide) (by decide) _⟩)) ?_
      exact RV.AllDo.nil
    · intro γ w5 L9 hL hI9 hG9
      obtain ⟨sg, kb, e9, e8, Ck, hlie, hbb⟩ := hG9.done (hL 14 (by decide)) (hL 15 (by decide)) (hL 16 (by decide))
      obtain ⟨g7, e7, e6⟩ := hG9.sl (hL 13 (by decide))
      have CK : Hid (CW _ _ _) := Ck
      have LK9 : Hid _ := hlie
      have HB6 : Hid (Below w0.heap.size w0 w5) := b_step HB5.out hbb
      have CG : Hid (CW _ _ _) := CG.out.step hbb
      have CT : Hid (CW _ _ _) := CT.out.step hbb
      have CF : Hid (CW _ _ _) := CF.out.step hbb
      clear hG9 hbb hlie Ck HB5 p0 p1 p2 w_1 w_2 w_3 CP
      simp only [RV.putL, Act.put, List.setIfInBounds_toArray, List.set_cons_zero, List.set_cons_succ, Nat.reduceAdd]
      rw [e9, e8, e7]
      clear hI9 hL e9 e8 e7 e6
      obtain ⟨W7, hW7⟩ : ∃ X, X = w5.alloc (.cells #[.slice (some ⟨sg, 0, none⟩) 1 1, .slice none 0 0, .slice none 0 0, .int .i64 5] 28) := ⟨_, rfl⟩
      obtain ⟨lb, hlb⟩ : ∃ b, b = w5.heap.size := ⟨_, rfl⟩
      have hb7 : Below w5.heap.size w5 W7 := by rw [hW7]; exact n_after _ _
      have cl := Cel.new w5 [.slice (some ⟨sg, 0, none⟩) 1 1, .slice none 0 0, .slice none 0 0, .int .i64 5] 28
      rw [← hlb, ← hW7] at cl
      have hlc : LiesC W7 (.slice (some ⟨lb, 0, none⟩) 1 1) [⟨[⟨px, fy, fz⟩], [], [], 5⟩] := liesC_one (c := ⟨[⟨px, fy, fz⟩], [], [], 5⟩) cl (LK9.out.below hb7) (lies_nil9 _) (lies_nil9 _)
      have hf7 := CF.out.step hb7 0 _ rfl
      have HC3 : Hid _ := HC2.out _ false W7 hlc hf7.1 hf7.2
      have k0 := (CK.out 0 _ rfl).1
      have k1 := (CK.out 1 _ rfl).1
      have k2 := (CK.out 2 _ rfl).1
      have k3 := (CK.out 3 _ rfl).1
      have g0 := (CG.out 0 _ rfl).1
      have g1 := (CG.out 1 _ rfl).1
      have g2 := (CG.out 2 _ rfl).1
      have t0 := (CT.out 0 _ rfl).1
      have t1 := (CT.out 1 _ rfl).1
      have t2 := (CT.out 2 _ rfl).1
      have HB7 : Hid (Below w0.heap.size w0 W7) := b_step HB6.out hb7
      have CT7 : Hid (CW W7 _ _) := CT.out.step hb7
      clear hb7 cl hlc hf7 HC2 LK9 CG
      go_wp2_with (fail)
      rw [← hlb, ← hW7]
      clear hlb hW7
      refine Calls.mono HC3.out ?_
      rintro e W8 ⟨rfl, HA⟩
      have HB8 : Hid (Below w0.heap.size w0 W8) := HA.out.on HB7.out HFB0.out
      have CT : Hid (CW _ _ _) := CT7.out.after HA.out HNE.out.2.1
      have fc := HA.out.cell
      clear HA HC3 HB7 k0 k1 k2 k3 g0 g1 g2 t0 t1 t2
      obtain ⟨W9, hW9⟩ : ∃ X, X = W8.alloc (.cells #[.int .i64 ux, .int .i64 gy, .int .i64 gz] 23) := ⟨_, rfl⟩
      obtain ⟨ob9, hob9⟩ : ∃ x, x = W8.heap.size := ⟨_, rfl⟩
      have kb : Below W8.heap.size W8 W9 := by rw [hW9]; exact n_after _ _
      have CO : Hid (CW W9 ob9 [.int .i64 ux, .int .i64 gy, .int .i64 gz]) := by show CW _ _ _; rw [hW9, hob9]; exact CW.new W8 [.int .i64 ux, .int .i64 gy, .int .i64 gz] 23
      have HB9 : Hid (Below w0.heap.size w0 W9) := b_step HB8.out kb
      have CT : Hid (CW _ _ _) := CT.out.step kb
      have fc := c_after kb fc
      clear kb HB8
      go_upto_region 12 with fail
      rw [← hob9, ← hW9]
      clear hob9 hW9
      have t0 := (CT.out 0 _ rfl).1
      have t1 := (CT.out 1 _ rfl).1
      have t2 := (CT.out 2 _ rfl).1
      have c0 := (CO.out 0 _ rfl).1
      have c1 := (CO.out 1 _ rfl).1
      have c2 := (CO.out 2 _ rfl).1
      clear CT CO
      go_wp2_with (fail)
      go_ret
      exact ⟨rfl, HB9.out⟩


/-! ### The row's step, after the guide's template -/
set_option maxRecDepth 100000 in
theorem lifted (os : Os) (started : os.Started) (H : Type) (enc : TypeId × Value → H) :
    ReturnsInHanded {} Tryz.checked os 6 .any (Rows.ccdAloneSpec.pre6 enc Tryz.prog Tryz.f6 Rows.ccdAloneRow.domain false) (Rows.ccdAloneSpec.post enc Tryz.prog Tryz.f6 false true false false) := by
  refine returnsInHanded_of_change (C := Tryz.checked) own started (by kernel_rfl) Tryz.func6
    (ChangeSpec.witness6 (enc := enc) (C := Tryz.checked) false ⟨#[], #[.agg #[.int .i64 0, .int .i64 0, .int .i64 0, .int .i64 0, .int .i64 0, .int .i64 0, .int .i64 0, .slice none 0 0, .slice none 0 0], .int .i64 0], []⟩ 8 (by kernel_rfl) (by kernel_rfl) (by kernel_rfl) (by kernel_rfl)) ?_
  intro W base args ds gs before hval0 hW hcnd _
  have hval : ∀ (j : Nat) t v, Tryz.f6.params[j]? = some t → args[j]? = some v → Value.okWide Tryz.prog W .any base t v := hval0
  have hW' := hW
  obtain ⟨p, q, hA0, hV, rfl, hfz, hnd⟩ := hW
  have hA : DataW.TrodAll enc Tryz.prog W 0 (fun _ => true) true Tryz.f6.params.toList args.toList ds p := hA0
  rw [Tryz.params6] at hA hval
  obtain ⟨v0, vs0, d0, ds0, p0, q0, hargs, rfl, rfl, h0, r0⟩ := trodAll_cons hA
  obtain ⟨v1, vs1, d1, ds1, p1, q1, rfl, rfl, rfl, h1, r1⟩ := trodAll_cons r0
  obtain ⟨rfl, rfl, rfl⟩ := trodAll_nil r1
  obtain rfl : args = #[v0, v1] := by cases args; simp_all
  obtain ⟨rfl, rfl⟩ := trodVars_none hV
  have k0 := h0
  have lt0 : ∀ x ∈ p0, x.block < W.heap.size := by obtain ⟨m, hm⟩ := k0; exact DataW.trod_lt m _ _ _ hm
  obtain ⟨fv, yv, rr, oa, RR, ca, ob, SS, cb, rfl, hR, oR, hS, oS, bds⟩ := open_shot (hval 0 41 v0 rfl rfl) h0
  obtain ⟨a1, rfl, rfl, rfl, w1⟩ := open_int Tryz.underlying3 (hval 1 3 v1 rfl rfl) h1
  have b1 := bounds_i64 w1
  clear hA0 hval0
  refine (walk fv yv rr oa RR ca ob SS cb a1 W hR oR hS oS bds (by omega)).mono fun e W' ⟨he, bel⟩ => ?_
  subst he
  exact ⟨_, rfl, _, _, _, [], _, [], hW', trodAll_mk1 (shut_bool Tryz.underlying4 _), (trodAll_cons_mk (Below.trod laidOut (by kernel_rfl) (of_decide_eq_true (by kernel_rfl)) k0 bel lt0) (trodAll_cons_mk (shut_int Tryz.underlying3 w1) trodAll_mk0)), rfl, bel.frame _, fun h => by cases h⟩

theorem over : Rows.ccdAloneRow.holds Tryz.pinned (OpenSpec.ofChange Rows.ccdAloneSpec) :=
  OpenClaim.holds_of_wide 6 Tryz.f6 rfl rfl rfl rfl rfl rfl rfl ⟨rfl, rfl, rfl, rfl, rfl⟩ rfl rfl rfl rfl rfl (by kernel_rfl) Tryz.func6 (by kernel_rfl)
    (of_decide_eq_true (by kernel_rfl)) (by unfold Func.isWrapper; first | (rw [if_pos (by decide +kernel)]; kernel_rfl) | (rw [if_neg (by decide +kernel)]; exact ⟨rfl, rfl⟩))
    (fun os started H enc _ => lifted os started H enc)

end ccdAlone

theorem ccdAlone_holds : Rows.CcdAloneSaid := ccdAlone.over
#print axioms ccdAlone_holds
end Go.Proofs.YtablgiflakncfaaGreat
