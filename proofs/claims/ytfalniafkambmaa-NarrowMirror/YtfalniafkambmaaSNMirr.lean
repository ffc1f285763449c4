/- It is as far from one to the other one as back, what is told the other way round is a proof, too, and to move both by the same grains changes nothing: for all raw shapes and poses, and all points. -/
import Derived.Test.YtfalniafkambmaaBNS24
import Derived.Test.YtfalniafkambmaaBNS0
import Derived.Test.YtfalniafkambmaaProg
import Derived.WalkKit
import Derived.Orders
import Derived.Below
import Derived.Laws.Rows
import Derived.Test.YtfalniafkambmaaBNS23
import Derived.Test.YtfalniafkambmaaBNS18
import Derived.Test.YtfalniafkambmaaBNS17
import Derived.Test.YtfalniafkambmaaBNS11
import Derived.Test.YtfalniafkambmaaBNS7
import Derived.Test.YtfalniafkambmaaBNS3
import Derived.Test.YtfalniafkambmaaBNS2
import Derived.Test.YtfalniafkambmaaENMirr0
import Derived.Laws.MathBits
import Derived.Laws.Externs
import Derived.Handy
import Derived.Laws.BitsAllLaws
import Derived.WalkLawsBesides
import Derived.Deep.RegionWith
import Derived.Test.YtfalniafkambmaaBNS1
import Derived.RangeFuncBox
import Derived.Shelf.Abstract
import Derived.OwnWalkIn
import Derived.TacticsInMore
import Derived.LoopNIn
import Derived.LoopIn
import Derived.LoopTactic
import Derived.ProofKit
import Derived.Laws.MakeOwn
import Derived.Laws.OwnMore
import Derived.Maps.AppendAt
import Derived.Deep.QuietTactic
import Derived.BigQuiet
import Derived.Deep.CutBlock
import Derived.Deep.CutRange
import Derived.Deep.LoopGhost
import Derived.Lib.SmallJoins
import Derived.RowKit
import Derived.Deep.MidRow
import Derived.Test.YtfalniafkambmaaBNS6
import Derived.Test.YtfalniafkambmaaBNS5
import Derived.Test.YtfalniafkambmaaBNS4
import Derived.OneCell
import Derived.WalkMore
import Derived.Lib.BufferMore
import Derived.Test.YtfalniafkambmaaBNS10
import Derived.Test.YtfalniafkambmaaBNS9
import Derived.Test.YtfalniafkambmaaBNS8
import Derived.Deep.RegionHeld3
import Derived.Test.YtfalniafkambmaaBNS13
import Derived.Test.YtfalniafkambmaaENMirr1
import Derived.Test.YtfalniafkambmaaBNS12
import Derived.Test.YtfalniafkambmaaBNS16
import Derived.Test.YtfalniafkambmaaBNS15
import Derived.Test.YtfalniafkambmaaBNS14
import Derived.Test.YtfalniafkambmaaBNS22
import Derived.Test.YtfalniafkambmaaBNS21
import Derived.Test.YtfalniafkambmaaBNS20
import Derived.Test.YtfalniafkambmaaBNS19
import Derived.RangeFuncNested
import Derived.RangeFuncBound
import Derived.RangeFuncCalls
import Derived.RangeFuncLeaves
import Derived.Scope
import Derived.OrdersIn
import Derived.Sort.CutIn
import Derived.Test.YtfalniafkambmaaBNS25
import Derived.OpenShut
import Derived.Deep.Slices
import Derived.Test.YtfalniafkambmaaRows
namespace Go.Proofs.Ytfalniafkambmaa
theorem farL_ne {n b : Nat} {v : Value} {L : List Pt} (h : farL n v L) (hb : b < n) : ∀ q k c, v = .slice (some q) k c → L ≠ [] → q.block ≠ b := fun q k c e he => by have := h q k c e he; omega
theorem may_len3 {c : Cr} (h : mayC c = true) : c.P.length ≤ 32 ∧ c.A.length ≤ 128 ∧ c.E.length ≤ 128 := by
  unfold mayC at h
  simp only [Bool.and_eq_true, decide_eq_true_eq] at h
  omega
namespace narrowMirror
open Go.ChangeShapes Go.WideShapes Go.ChangeAt Go.RowKit Go.Shelf
set_option linter.unusedVariables false

theorem own : ownKnob Try.prog.godebug = none := by kernel_rfl
theorem laidOut : laidOutB Try.prog = true := by kernel_rfl

set_option maxHeartbeats 8000000 in
set_option maxRecDepth 100000 in
theorem walk (k1 r1 x1 y1 z1 : Int) (o1 : Option Addr) (L1 : List Pt) (c1 : Nat) (k2 r2 x2 y2 z2 : Int) (o2 : Option Addr) (L2 : List Pt) (c2 : Nat) (p0 p1 p2 p3 p4 p5 p6 q0 q1 q2 q3 q4 q5 q6 nr wx wy wz : Int) (ux uy uz : Int) (w0 : World) (hb : ∀ v ∈ ([k1, r1, x1, y1, z1, k2, r2, x2, y2, z2, p0, p1, p2, p3, p4, p5, p6, q0, q1, q2, q3, q4, q5, q6, nr, wx, wy, wz] : List Int), -9223372036854775808 ≤ v ∧ v ≤ 9223372036854775807) (hL1 : Lies w0 (.slice o1 L1.length c1) L1) (hF1 : ∀ p ∈ L1, p.fits) (hL2 : Lies w0 (.slice o2 L2.length c2) L2) (hF2 : ∀ p ∈ L2, p.fits) (bux : -9223372036854775808 ≤ ux ∧ ux ≤ 9223372036854775807) (buy : -9223372036854775808 ≤ uy ∧ uy ≤ 9223372036854775807) (buz : -9223372036854775808 ≤ uz ∧ uz ≤ 9223372036854775807) :
    Calls Try.prog 4 #[.agg #[.int .i64 k1, .int .i64 r1, .int .i64 x1, .int .i64 y1, .int .i64 z1, .slice o1 L1.length c1, .int .i64 k2, .int .i64 r2, .int .i64 x2, .int .i64 y2, .int .i64 z2, .slice o2 L2.length c2, .int .i64 p0, .int .i64 p1, .int .i64 p2, .int .i64 p3, .int .i64 p4, .int .i64 p5, .int .i64 p6, .int .i64 q0, .int .i64 q1, .int .i64 q2, .int .i64 q3, .int .i64 q4, .int .i64 q5, .int .i64 q6, .int .i64 nr, .int .i64 wx, .int .i64 wy, .int .i64 wz], .agg #[.int .i64 ux, .int .i64 uy, .int .i64 uz]] w0 fun e w' => e = .returned (.bool true) ∧ Below w0.heap.size w0 w' := by
  have HCO : Hid _ := fun w' (h : Below w0.heap.size w0 w') => cores_any k1 r1 x1 y1 z1 o1 L1 c1 k2 r2 x2 y2 z2 o2 L2 c2 p0 p1 p2 p3 p4 p5 p6 q0 q1 q2 q3 q4 q5 q6 nr wx wy wz w' hb (hL1.below h) hF1 (hL2.below h) hF2
  have AW : Hid _ := fun W => awake9_any W
  clear hb hL1 hF1 hL2 hF2
  have HPx : Hid _ := fun w' => npick_below ux 1048576 w' bux (by decide) (by decide)
  have lx := pickY_lo ux (n := 1048576) (by decide)
  have vx := pickY_hi ux (n := 1048576) (by decide)
  generalize pickY ux 1048576 = sx at *
  have HPy : Hid _ := fun w' => npick_below uy 1048576 w' buy (by decide) (by decide)
  have ly := pickY_lo uy (n := 1048576) (by decide)
  have vy := pickY_hi uy (n := 1048576) (by decide)
  generalize pickY uy 1048576 = sy at *
  have HPz : Hid _ := fun w' => npick_below uz 1048576 w' buz (by decide) (by decide)
  have lz := pickY_lo uz (n := 1048576) (by decide)
  have vz := pickY_hi uz (n := 1048576) (by decide)
  generalize pickY uz 1048576 = sz at *
  have HSQ : Hid (Pt.inB ⟨sx, sy, sz⟩ 1048576 = true) := by show _ = _; rw [Pt.inB_iff]; dsimp only; omega
  clear bux buy buz lx ly lz vx vy vz
  obtain ⟨W1, hW1⟩ : ∃ W1, W1 = (w0.alloc (.cells #[.int .i64 k1, .int .i64 r1, .int .i64 x1, .int .i64 y1, .int .i64 z1, .slice o1 L1.length c1, .int .i64 k2, .int .i64 r2, .int .i64 x2, .int .i64 y2, .int .i64 z2, .slice o2 L2.length c2, .int .i64 p0, .int .i64 p1, .int .i64 p2, .int .i64 p3, .int .i64 p4, .int .i64 p5, .int .i64 p6, .int .i64 q0, .int .i64 q1, .int .i64 q2, .int .i64 q3, .int .i64 q4, .int .i64 q5, .int .i64 q6, .int .i64 nr, .int .i64 wx, .int .i64 wy, .int .i64 wz] 33)).alloc (.cells #[.int .i64 ux, .int .i64 uy, .int .i64 uz] 23) := ⟨_, rfl⟩
  have CW : Hid (Cel W1 w0.heap.size [.int .i64 k1, .int .i64 r1, .int .i64 x1, .int .i64 y1, .int .i64 z1, .slice o1 L1.length c1, .int .i64 k2, .int .i64 r2, .int .i64 x2, .int .i64 y2, .int .i64 z2, .slice o2 L2.length c2, .int .i64 p0, .int .i64 p1, .int .i64 p2, .int .i64 p3, .int .i64 p4, .int .i64 p5, .int .i64 p6, .int .i64 q0, .int .i64 q1, .int .i64 q2, .int .i64 q3, .int .i64 q4, .int .i64 q5, .int .i64 q6, .int .i64 nr, .int .i64 wx, .int .i64 wy, .int .i64 wz]) := by show Cel _ _ _; rw [hW1]; exact (Cel.new w0 [.int .i64 k1, .int .i64 r1, .int .i64 x1, .int .i64 y1, .int .i64 z1, .slice o1 L1.length c1, .int .i64 k2, .int .i64 r2, .int .i64 x2, .int .i64 y2, .int .i64 z2, .slice o2 L2.length c2, .int .i64 p0, .int .i64 p1, .int .i64 p2, .int .i64 p3, .int .i64 p4, .int .i64 p5, .int .i64 p6, .int .i64 q0, .int .i64 q1, .int .i64 q2, .int .i64 q3, .int .i64 q4, .int .i64 q5, .int .i64 q6, .int .i64 nr, .int .i64 wx, .int .i64 wy, .int .i64 wz] _).step (n_after _ _)
  have CY : Hid (CelW W1 (w0.heap.size + 1) [.int .i64 ux, .int .i64 uy, .int .i64 uz]) := by show CelW _ _ _; rw [hW1]; have h9 := CelW.new (w0.alloc (.cells #[.int .i64 k1, .int .i64 r1, .int .i64 x1, .int .i64 y1, .int .i64 z1, .slice o1 L1.length c1, .int .i64 k2, .int .i64 r2, .int .i64 x2, .int .i64 y2, .int .i64 z2, .slice o2 L2.length c2, .int .i64 p0, .int .i64 p1, .int .i64 p2, .int .i64 p3, .int .i64 p4, .int .i64 p5, .int .i64 p6, .int .i64 q0, .int .i64 q1, .int .i64 q2, .int .i64 q3, .int .i64 q4, .int .i64 q5, .int .i64 q6, .int .i64 nr, .int .i64 wx, .int .i64 wy, .int .i64 wz] 33)) [.int .i64 ux, .int .i64 uy, .int .i64 uz] 23; rw [World.size_alloc] at h9; exact h9
  have HB : Hid (Below w0.heap.size w0 W1) := by show Below _ _ _; rw [hW1]; exact b_step (n_after _ _) (n_after _ _)
  obtain ⟨yb, hyb⟩ : ∃ b, b = w0.heap.size + 1 := ⟨_, rfl⟩
  rw [← hyb] at CY
  obtain ⟨tb, htb⟩ : ∃ b, b = w0.heap.size := ⟨_, rfl⟩
  rw [← htb] at CW
  go_enter Try.func4, Try.ntmps4
  go_upto_region 1 with fail
  rw [← hW1, ← hyb, ← htb]
  have hy0 : w0.heap.size ≤ yb := by omega
  clear hW1 htb hyb
  go_wp2_with (fail)
  refine Calls.mono (AW.out _) ?_
  rintro e V1 ⟨rfl, hb⟩
  have CW : Hid _ := Cel.step CW.out hb
  have CY : Hid _ := CelW.step CY.out hb
  have HB : Hid _ := b_step HB.out hb
  clear hb AW
  have HRG : Hid (World.rangeAt V1 tb 0 [.int .i64 k1, .int .i64 r1, .int .i64 x1, .int .i64 y1, .int .i64 z1, .slice o1 L1.length c1, .int .i64 k2, .int .i64 r2, .int .i64 x2, .int .i64 y2, .int .i64 z2, .slice o2 L2.length c2, .int .i64 p0, .int .i64 p1, .int .i64 p2, .int .i64 p3, .int .i64 p4, .int .i64 p5, .int .i64 p6, .int .i64 q0, .int .i64 q1, .int .i64 q2, .int .i64 q3, .int .i64 q4, .int .i64 q5, .int .i64 q6, .int .i64 nr, .int .i64 wx, .int .i64 wy, .int .i64 wz]) := fun j v e => by rw [Nat.zero_add]; exact CW.out j v e
  clear CW
  go_wp2_with (refine wpList_load_mid rfl 33 _ rfl tb 0 rfl [.int .i64 k1, .int .i64 r1, .int .i64 x1, .int .i64 y1, .int .i64 z1, .slice o1 L1.length c1, .int .i64 k2, .int .i64 r2, .int .i64 x2, .int .i64 y2, .int .i64 z2, .slice o2 L2.length c2, .int .i64 p0, .int .i64 p1, .int .i64 p2, .int .i64 p3, .int .i64 p4, .int .i64 p5, .int .i64 p6, .int .i64 q0, .int .i64 q1, .int .i64 q2, .int .i64 q3, .int .i64 q4, .int .i64 q5, .int .i64 q6, .int .i64 nr, .int .i64 wx, .int .i64 wy, .int .i64 wz] _ HRG.out Try.underlying33 rfl (by kernel_rfl) ?_)
  refine Calls.mono (HCO.out _ HB.out) ?_
  rintro e V2 ⟨a, b, va1, va2, va3, vb1, vb2, vb3, rfl, HLI, hNA, hNB, hRA, hRB, HFR⟩
  have hyL := CelW.lt CY.out
  have NY : Hid _ := And.intro (farL_ne HFR.out.1 hyL) (And.intro (farL_ne HFR.out.2.1 hyL) (And.intro (farL_ne HFR.out.2.2.1 hyL) (And.intro (farL_ne HFR.out.2.2.2.1 hyL) (And.intro (farL_ne HFR.out.2.2.2.2.1 hyL) (farL_ne HFR.out.2.2.2.2.2 hyL)))))
  clear HFR hyL
  have hMA := hNA.1
  have hMB := hNB.1
  obtain ⟨hl1, hl2, hl3, hl4, hl5, hl6, hb⟩ := HLI.out
  have CY : Hid _ := CelW.step CY.out hb
  have HB : Hid _ := b_step HB.out hb
  have A1 : Hid _ := hl1
  have A2 : Hid _ := hl2
  have A3 : Hid _ := hl3
  have B1 : Hid _ := hl4
  have B2 : Hid _ := hl5
  have B3 : Hid _ := hl6
  obtain ⟨ao1, ac1, rfl, _⟩ := hl1.form
  obtain ⟨ao2, ac2, rfl, _⟩ := hl2.form
  obtain ⟨ao3, ac3, rfl, _⟩ := hl3.form
  obtain ⟨bo1, bc1, rfl, _⟩ := hl4.form
  obtain ⟨bo2, bc2, rfl, _⟩ := hl5.form
  obtain ⟨bo3, bc3, rfl, _⟩ := hl6.form
  clear HLI hl1 hl2 hl3 hl4 hl5 hl6 hb HCO HRG
  obtain ⟨X, hX⟩ : ∃ V, V = (V2.alloc (.cells #[.slice ao1 a.P.length ac1, .slice ao2 a.A.length ac2, .slice ao3 a.E.length ac3, .int .i64 a.r] 36)).alloc (.cells #[.slice bo1 b.P.length bc1, .slice bo2 b.A.length bc2, .slice bo3 b.E.length bc3, .int .i64 b.r] 36) := ⟨_, rfl⟩
  obtain ⟨ab, hab⟩ : ∃ b, b = V2.heap.size := ⟨_, rfl⟩
  obtain ⟨bb, hbb⟩ : ∃ b, b = V2.heap.size + 1 := ⟨_, rfl⟩
  have hylt := CelW.lt CY.out
  have hbx : Below V2.heap.size V2 X := by rw [hX]; exact b_step (n_after _ _) (n_after _ _)
  have n2 := CelW.new (V2.alloc (.cells #[.slice ao1 a.P.length ac1, .slice ao2 a.A.length ac2, .slice ao3 a.E.length ac3, .int .i64 a.r] 36)) [.slice bo1 b.P.length bc1, .slice bo2 b.A.length bc2, .slice bo3 b.E.length bc3, .int .i64 b.r] 36
  rw [World.size_alloc] at n2
  have CA : Hid (CelW X ab [.slice ao1 a.P.length ac1, .slice ao2 a.A.length ac2, .slice ao3 a.E.length ac3, .int .i64 a.r]) := by show CelW _ _ _; rw [hX, hab]; exact (CelW.new _ _ _).step (n_after _ _)
  have CB : Hid (CelW X bb [.slice bo1 b.P.length bc1, .slice bo2 b.A.length bc2, .slice bo3 b.E.length bc3, .int .i64 b.r]) := by show CelW _ _ _; rw [hX, hbb]; exact n2
  clear n2
  go_upto_region 3 with fail
  rw [← hX, ← hbb, ← hab]
  have hne : (yb ≠ ab ∧ yb ≠ bb) ∧ w0.heap.size ≤ yb := ⟨⟨by omega, by omega⟩, hy0⟩
  have CY : Hid _ := CelW.step CY.out hbx
  have HB : Hid _ := b_step HB.out hbx
  have A1 : Hid _ := A1.out.below hbx
  have A2 : Hid _ := A2.out.below hbx
  have A3 : Hid _ := A3.out.below hbx
  have B1 : Hid _ := B1.out.below hbx
  have B2 : Hid _ := B2.out.below hbx
  have B3 : Hid _ := B3.out.below hbx
  clear hX hbb hab hbx hylt hy0
  have HA1 : Hid _ := fun (w' : World) (h : Below X.heap.size X w') => napart_any a.P a.A a.E b.P b.A b.E a.r b.r _ _ _ _ _ _ w' (A1.out.below h) (A2.out.below h) (A3.out.below h) (B1.out.below h) (B2.out.below h) (B3.out.below h)
  have HA2 : Hid _ := fun (w' : World) (h : Below X.heap.size X w') => napart_any b.P b.A b.E a.P a.A a.E b.r a.r _ _ _ _ _ _ w' (B1.out.below h) (B2.out.below h) (B3.out.below h) (A1.out.below h) (A2.out.below h) (A3.out.below h)
  have HV1 : Hid (apartV ⟨a.P, a.A, a.E, a.r⟩ ⟨b.P, b.A, b.E, b.r⟩ = .agg #[.int .i64 (told a b).1.x, .int .i64 (told a b).1.y, .int .i64 (told a b).1.z, .int .i64 (told a b).2]) := by show _ = _; unfold apartV; rw [show mayC ⟨a.P, a.A, a.E, a.r⟩ = true from hMA, show mayC ⟨b.P, b.A, b.E, b.r⟩ = true from hMB]; rfl
  have HV2 : Hid (apartV ⟨b.P, b.A, b.E, b.r⟩ ⟨a.P, a.A, a.E, a.r⟩ = .agg #[.int .i64 (told b a).1.x, .int .i64 (told b a).1.y, .int .i64 (told b a).1.z, .int .i64 (told b a).2]) := by show _ = _; unfold apartV; rw [show mayC ⟨a.P, a.A, a.E, a.r⟩ = true from hMA, show mayC ⟨b.P, b.A, b.E, b.r⟩ = true from hMB]; rfl
  have e1 : (mayC ⟨a.P, a.A, a.E, a.r⟩ && mayC ⟨b.P, b.A, b.E, b.r⟩) = true := by rw [show mayC ⟨a.P, a.A, a.E, a.r⟩ = true from hMA, show mayC ⟨b.P, b.A, b.E, b.r⟩ = true from hMB]; rfl
  have e2 : (mayC ⟨b.P, b.A, b.E, b.r⟩ && mayC ⟨a.P, a.A, a.E, a.r⟩) = true := by rw [show mayC ⟨a.P, a.A, a.E, a.r⟩ = true from hMA, show mayC ⟨b.P, b.A, b.E, b.r⟩ = true from hMB]; rfl
  rw [HV1.out, e1] at HA1
  rw [HV2.out, e2] at HA2
  obtain ⟨h1, h2, h3, kk, hk, h4, h5⟩ := NS.sound_facts hMB hMA hNB.2.1.2
  have HSO : Hid _ := fun (w' : World) (l1 : Lies w' (.slice bo1 b.P.length bc1) b.P) (l2 : Lies w' (.slice ao1 a.P.length ac1) a.P) => sound_any b.P a.P (told b a).1 (told b a).2 b.r a.r _ kk bo1 ao1 bc1 ac1 (.slice bo2 b.A.length bc2) (.slice bo3 b.E.length bc3) (.slice ao2 a.A.length ac2) (.slice ao3 a.E.length ac3) w' l1 l2 h1 h2 (by omega) (by omega) rfl h3 (may_facts hMB).2.1 (may_facts hMA).2.1 hk h4 h5 (by have := hNB.2.1.1; omega) (by have := hNA.2.1.1; omega)
  have hfl := NM.told_flip a b
  have la := may_len3 hMA
  have lb := may_len3 hMB
  have HMA2 : Hid _ := fun (w' : World) (l1 : Lies w' (.slice ao1 a.P.length ac1) a.P) (l2 : Lies w' (.slice ao2 a.A.length ac2) a.A) (l3 : Lies w' (.slice ao3 a.E.length ac3) a.E) => moved_any ⟨sx, sy, sz⟩ a.P a.A a.E a.r _ _ _ w' l1 l2 l3 (by omega) (by omega) (by omega)
  have HMB2 : Hid _ := fun (w' : World) (l1 : Lies w' (.slice bo1 b.P.length bc1) b.P) (l2 : Lies w' (.slice bo2 b.A.length bc2) b.A) (l3 : Lies w' (.slice bo3 b.E.length bc3) b.E) => moved_any ⟨sx, sy, sz⟩ b.P b.A b.E b.r _ _ _ w' l1 l2 l3 (by omega) (by omega) (by omega)
  have hm1 := moved_may20 hNA HSQ.out
  have hm2 := moved_may20 hNB HSQ.out
  have htm := told_moved hNA hNB HSQ.out
  obtain ⟨Pm, hPm⟩ : ∃ x, a.P.map (fun p => p.plus ⟨sx, sy, sz⟩) = x := ⟨_, rfl⟩
  obtain ⟨Qm, hQm⟩ : ∃ x, b.P.map (fun p => p.plus ⟨sx, sy, sz⟩) = x := ⟨_, rfl⟩
  rw [hPm] at HMA2 hm1 htm
  rw [hQm] at HMB2 hm2 htm
  have HV3 : Hid (apartV ⟨Pm, a.A, a.E, a.r⟩ ⟨Qm, b.A, b.E, b.r⟩ = .agg #[.int .i64 (told a b).1.x, .int .i64 (told a b).1.y, .int .i64 (told a b).1.z, .int .i64 (told a b).2]) := by show _ = _; unfold apartV; rw [hm1, hm2]; show Value.agg #[.int .i64 (told ⟨Pm, a.A, a.E, a.r⟩ ⟨Qm, b.A, b.E, b.r⟩).1.x, .int .i64 (told ⟨Pm, a.A, a.E, a.r⟩ ⟨Qm, b.A, b.E, b.r⟩).1.y, .int .i64 (told ⟨Pm, a.A, a.E, a.r⟩ ⟨Qm, b.A, b.E, b.r⟩).1.z, .int .i64 (told ⟨Pm, a.A, a.E, a.r⟩ ⟨Qm, b.A, b.E, b.r⟩).2] = _; rw [htm]
  have e3 : (mayC ⟨Pm, a.A, a.E, a.r⟩ && mayC ⟨Qm, b.A, b.E, b.r⟩) = true := by rw [hm1, hm2]; rfl
  have HA3 : Hid _ := fun (v1 v2 v3 u1 u2 u3 : Value) (w' : World) (l1 : Lies w' v1 Pm) (l2 : Lies w' v2 a.A) (l3 : Lies w' v3 a.E) (m1 : Lies w' u1 Qm) (m2 : Lies w' u2 b.A) (m3 : Lies w' u3 b.E) => napart_any Pm a.A a.E Qm b.A b.E a.r b.r v1 v2 v3 u1 u2 u3 w' l1 l2 l3 m1 m2 m3
  rw [HV3.out, e3] at HA3
  obtain ⟨⟨⟨tx, ty, tz⟩, tg⟩, ht⟩ : ∃ x, told a b = x := ⟨_, rfl⟩
  obtain ⟨⟨⟨rx, ry, rz⟩, rg⟩, hr⟩ : ∃ x, told b a = x := ⟨_, rfl⟩
  rw [ht] at HA1 HA3 hfl
  rw [hr] at HA2 HSO hfl
  dsimp only at HA1 HA2 HA3 HSO hfl
  obtain rfl : rg = tg := hfl.symm
  have FAR : Hid ((yb ≠ ab ∧ yb ≠ bb) ∧ w0.heap.size ≤ yb) := hne
  clear ht hr htm hm1 hm2 hPm hQm HV1 HV2 HV3 e1 e2 e3 h1 h2 h3 hk h4 h5 hMA hMB hNA hNB hRA hRB hne hfl la lb HSQ
  unfold coreA at HA1 HA2 HA3
  unfold coreV Pt.v at HMA2 HMB2
  dsimp only at HA1 HA2 HA3 HMA2 HMB2
  have x0 := (CA.out 0 _ rfl).1
  have y0 := (CB.out 0 _ rfl).1
  have x1 := (CA.out 1 _ rfl).1
  have y1 := (CB.out 1 _ rfl).1
  have x2 := (CA.out 2 _ rfl).1
  have y2 := (CB.out 2 _ rfl).1
  have x3 := (CA.out 3 _ rfl).1
  have y3 := (CB.out 3 _ rfl).1
  go_wp2_with (fail)
  refine Calls.mono (HA1.out _ (Below.refl _ _)) ?_
  rintro e V3 ⟨rfl, hb⟩
  have HX3 : Hid _ := hb
  have CA : Hid _ := CelW.step CA.out hb
  have CB : Hid _ := CelW.step CB.out hb
  have CY : Hid _ := CelW.step CY.out hb
  have HB : Hid _ := b_step HB.out hb
  clear hb HA1 x0 x1 x2 x3 y0 y1 y2 y3
  obtain ⟨V4, hV4⟩ : ∃ V, V = V3.alloc (.cells #[.int .i64 tx, .int .i64 ty, .int .i64 tz, .int .i64 rg] 40) := ⟨_, rfl⟩
  obtain ⟨xb, hxb⟩ : ∃ b, b = V3.heap.size := ⟨_, rfl⟩
  have hb3 : Below V3.heap.size V3 V4 := by rw [hV4]; exact n_after _ _
  have CX : Hid (CelW V4 xb [.int .i64 tx, .int .i64 ty, .int .i64 tz, .int .i64 rg]) := by show CelW _ _ _; rw [hV4, hxb]; exact CelW.new _ _ _
  have hxy : yb ≠ xb := by have := CelW.lt CY.out; omega
  go_upto_region 4 with fail
  rw [← hV4, ← hxb]
  have HX4 : Hid _ := b_step HX3.out hb3
  have CA : Hid _ := CelW.step CA.out hb3
  have CB : Hid _ := CelW.step CB.out hb3
  have CY : Hid _ := CelW.step CY.out hb3
  have HB : Hid _ := b_step HB.out hb3
  clear hV4 hxb hb3 HX3
  have x0 := (CA.out 0 _ rfl).1
  have y0 := (CB.out 0 _ rfl).1
  have x1 := (CA.out 1 _ rfl).1
  have y1 := (CB.out 1 _ rfl).1
  have x2 := (CA.out 2 _ rfl).1
  have y2 := (CB.out 2 _ rfl).1
  have x3 := (CA.out 3 _ rfl).1
  have y3 := (CB.out 3 _ rfl).1
  go_wp2_with (fail)
  refine Calls.mono (HA2.out _ HX4.out) ?_
  rintro e V5 ⟨rfl, hb⟩
  have HX5 : Hid _ := b_step HX4.out hb
  have CA : Hid _ := CelW.step CA.out hb
  have CB : Hid _ := CelW.step CB.out hb
  have CX : Hid _ := CelW.step CX.out hb
  have CY : Hid _ := CelW.step CY.out hb
  have HB : Hid _ := b_step HB.out hb
  clear hb HA2 HX4 x0 x1 x2 x3 y0 y1 y2 y3
  obtain ⟨V6, hV6⟩ : ∃ V, V = V5.alloc (.cells #[.int .i64 rx, .int .i64 ry, .int .i64 rz, .int .i64 rg] 40) := ⟨_, rfl⟩
  obtain ⟨zb, hzb⟩ : ∃ b, b = V5.heap.size := ⟨_, rfl⟩
  have hb5 : Below V5.heap.size V5 V6 := by rw [hV6]; exact n_after _ _
  have CZ : Hid (CelW V6 zb [.int .i64 rx, .int .i64 ry, .int .i64 rz, .int .i64 rg]) := by show CelW _ _ _; rw [hV6, hzb]; exact CelW.new _ _ _
  have hyz : yb ≠ zb := by have := CelW.lt CY.out; omega
  go_upto_region 5 with fail
  rw [← hV6, ← hzb]
  have HX6 : Hid _ := b_step HX5.out hb5
  have CA : Hid _ := CelW.step CA.out hb5
  have CB : Hid _ := CelW.step CB.out hb5
  have CX : Hid _ := CelW.step CX.out hb5
  have CY : Hid _ := CelW.step CY.out hb5
  have HB : Hid _ := b_step HB.out hb5
  clear hV6 hzb hb5 HX5
  obtain ⟨c0, f0⟩ := CY.out 0 _ rfl
  obtain ⟨c1, f1⟩ := CY.out 1 _ rfl
  obtain ⟨c2, f2⟩ := CY.out 2 _ rfl
  refine RV.region_by (fun j v w => match j with | 0 => v = .pointer (some ⟨yb, 0, none⟩) | 1 => v = .int .i64 (ux) | 2 => v = .int .i64 (sx) | 3 => v = .pointer (some ⟨yb, 1, none⟩) | 4 => v = .int .i64 (uy) | 5 => v = .int .i64 (sy) | 6 => v = .pointer (some ⟨yb, 2, none⟩) | 7 => v = .int .i64 (uz) | 8 => v = .int .i64 (sz) | 9 => v = .agg #[.int .i64 (sx), .int .i64 (sy), .int .i64 (sz)] | 10 => True | _ => True) (fun γ L w9 => (L 10 = false ∧ Below V6.heap.size V6 w9) ∨ (L 10 = true ∧ ∃ w, Below V6.heap.size V6 w ∧ w9 = (((w.setCell ⟨yb, 0, none⟩ (.int .i64 (sx))).setCell ⟨yb, 1, none⟩ (.int .i64 (sy))).setCell ⟨yb, 2, none⟩ (.int .i64 (sz))))) (by kernel_rfl) (by kernel_rfl) (by kernel_rfl) (by kernel_rfl) ?_ ?_ ?_
  · exact Or.inl ⟨rfl, (Below.refl _ V6).drew⟩
  · generalize hD : dstOf _ = D
    generalize hWA : waitsFor _ = WA
    generalize hZ : Act.mk _ _ = Z
    obtain ⟨R, hR⟩ : ∃ R : Nat → Value → World → Prop, R = (fun j v w => match j with | 0 => v = .pointer (some ⟨yb, 0, none⟩) | 1 => v = .int .i64 (ux) | 2 => v = .int .i64 (sx) | 3 => v = .pointer (some ⟨yb, 1, none⟩) | 4 => v = .int .i64 (uy) | 5 => v = .int .i64 (sy) | 6 => v = .pointer (some ⟨yb, 2, none⟩) | 7 => v = .int .i64 (uz) | 8 => v = .int .i64 (sz) | 9 => v = .agg #[.int .i64 (sx), .int .i64 (sy), .int .i64 (sz)] | 10 => True | _ => True) := ⟨_, rfl⟩
    rw [← hR]
    have d0 : D 0 = some 32 := by rw [← hD]; rfl
    have d1 : D 1 = some 33 := by rw [← hD]; rfl
    have d2 : D 2 = some 34 := by rw [← hD]; rfl
    have d3 : D 3 = some 35 := by rw [← hD]; rfl
    have d4 : D 4 = some 36 := by rw [← hD]; rfl
    have d5 : D 5 = some 37 := by rw [← hD]; rfl
    have d6 : D 6 = some 38 := by rw [← hD]; rfl
    have d7 : D 7 = some 39 := by rw [← hD]; rfl
    have d8 : D 8 = some 40 := by rw [← hD]; rfl
    have d9 : D 9 = some 41 := by rw [← hD]; rfl
    have r0 : ∀ v w, R 0 v w = (v = .pointer (some ⟨yb, 0, none⟩)) := fun v w => by rw [hR]; rfl
    have r1 : ∀ v w, R 1 v w = (v = .int .i64 (ux)) := fun v w => by rw [hR]; rfl
    have r2 : ∀ v w, R 2 v w = (v = .int .i64 (sx)) := fun v w => by rw [hR]; rfl
    have r3 : ∀ v w, R 3 v w = (v = .pointer (some ⟨yb, 1, none⟩)) := fun v w => by rw [hR]; rfl
    have r4 : ∀ v w, R 4 v w = (v = .int .i64 (uy)) := fun v w => by rw [hR]; rfl
    have r5 : ∀ v w, R 5 v w = (v = .int .i64 (sy)) := fun v w => by rw [hR]; rfl
    have r6 : ∀ v w, R 6 v w = (v = .pointer (some ⟨yb, 2, none⟩)) := fun v w => by rw [hR]; rfl
    have r7 : ∀ v w, R 7 v w = (v = .int .i64 (uz)) := fun v w => by rw [hR]; rfl
    have r8 : ∀ v w, R 8 v w = (v = .int .i64 (sz)) := fun v w => by rw [hR]; rfl
    have r9 : ∀ v w, R 9 v w = (v = .agg #[.int .i64 (sx), .int .i64 (sy), .int .i64 (sz)]) := fun v w => by rw [hR]; rfl
    have r10 : ∀ v w, R 10 v w = (True) := fun v w => by rw [hR]; rfl
    have E3 : ∀ (γ : Nat → Value) (L : Nat → Bool) (a : Act) (w : World), RV.Held D WA R (fun γ L w9 => (L 10 = false ∧ Below V6.heap.size V6 w9) ∨ (L 10 = true ∧ ∃ w, Below V6.heap.size V6 w ∧ w9 = (((w.setCell ⟨yb, 0, none⟩ (.int .i64 (sx))).setCell ⟨yb, 1, none⟩ (.int .i64 (sy))).setCell ⟨yb, 2, none⟩ (.int .i64 (sz))))) Z γ L a w → a.tmps[3]? = some (.pointer (some ⟨yb, 0, none⟩)) := fun γ L a w hH => (hH.rest 3 (by rw [← hD]; exact RV.dst_free (by kernel_rfl))).trans (by rw [← hZ]; rfl)
    have K : ∀ j v w w', R j v w → R j v w' := by rw [hR]; intro j v w w' h; exact h
    have A_10_1 : WA 10 1 := by rw [← hWA]; exact ⟨_, rfl, ⟨1, .phase⟩, by simp, rfl, rfl⟩
    have A_10_2 : WA 10 2 := by rw [← hWA]; exact ⟨_, rfl, ⟨2, .phase⟩, by simp, rfl, rfl⟩
    have A_10_4 : WA 10 4 := by rw [← hWA]; exact ⟨_, rfl, ⟨4, .phase⟩, by simp, rfl, rfl⟩
    have A_10_5 : WA 10 5 := by rw [← hWA]; exact ⟨_, rfl, ⟨5, .phase⟩, by simp, rfl, rfl⟩
    have A_10_7 : WA 10 7 := by rw [← hWA]; exact ⟨_, rfl, ⟨7, .phase⟩, by simp, rfl, rfl⟩
    have A_10_8 : WA 10 8 := by rw [← hWA]; exact ⟨_, rfl, ⟨8, .phase⟩, by simp, rfl, rfl⟩
    clear hD hWA hZ hR
    refine RV.AllDo.cons 0 (RV.does_pure (fun γ v L w hl h => by rw [RV.more_ne (L := L) (i := 0) (j := 10) (by decide)]; exact h) (fun γ L a w hH hl hA => by have e0 := E3 γ L a w hH; exact ⟨.pointer (some ⟨yb, 0, none⟩), by simp [execOp, go_sem, e0], (r0 _ _).mpr rfl⟩)) ?_
    refine RV.AllDo.cons 1 (RV.does_pure (fun γ v L w hl h => by rw [RV.more_ne (L := L) (i := 1) (j := 10) (by decide)]; exact h) (fun γ L a w hH hl hA => by have l0 : L 0 = true := hA ⟨0, .data⟩ (by simp) rfl; have e0 := hH.slot 0 32 d0 l0; have g0 := hH.holds 0 l0; rw [r0] at g0; rw [g0] at e0; have hB9 := early9 hH.glob (RV.not_yet hH A_10_1 hl); have z0 := c_after hB9 c0; exact ⟨.int .i64 (ux), by simp [execOp, go_sem, e0, z0], (r1 _ _).mpr rfl⟩)) ?_
    refine RV.AllDo.cons 2 (RV.does_call (fun γ L a w hH hl hA => by have l0 : L 1 = true := hA ⟨1, .data⟩ (by simp) rfl; have e0 := hH.slot 1 33 d1 l0; have g0 := hH.holds 1 l0; rw [r1] at g0; rw [g0] at e0; have hB9 := early9 hH.glob (RV.not_yet hH A_10_2 hl); exact ⟨9, #[.int .i64 (ux), .int .i64 (1048576)], by simp [go_sem, e0], Calls.mono (HPx.out w) (by rintro e w2 ⟨rfl, hb⟩; exact ⟨_, rfl, (r2 _ _).mpr rfl, fun j v _ h => K j v _ _ h, Or.inl ⟨by rw [RV.more_ne (L := L) (i := 2) (j := 10) (by decide)]; exact RV.not_yet hH A_10_2 hl, hB9.trans (hb.mono hB9.size)⟩⟩)⟩)) ?_
    refine RV.AllDo.cons 3 (RV.does_pure (fun γ v L w hl h => by rw [RV.more_ne (L := L) (i := 3) (j := 10) (by decide)]; exact h) (fun γ L a w hH hl hA => by have e0 := E3 γ L a w hH; exact ⟨.pointer (some ⟨yb, 1, none⟩), by simp [execOp, go_sem, e0], (r3 _ _).mpr rfl⟩)) ?_
    refine RV.AllDo.cons 4 (RV.does_pure (fun γ v L w hl h => by rw [RV.more_ne (L := L) (i := 4) (j := 10) (by decide)]; exact h) (fun γ L a w hH hl hA => by have l0 : L 3 = true := hA ⟨3, .data⟩ (by simp) rfl; have e0 := hH.slot 3 35 d3 l0; have g0 := hH.holds 3 l0; rw [r3] at g0; rw [g0] at e0; have hB9 := early9 hH.glob (RV.not_yet hH A_10_4 hl); have z0 := c_after hB9 c1; exact ⟨.int .i64 (uy), by simp [execOp, go_sem, e0, z0], (r4 _ _).mpr rfl⟩)) ?_
    refine RV.AllDo.cons 5 (RV.does_call (fun γ L a w hH hl hA => by have l0 : L 4 = true := hA ⟨4, .data⟩ (by simp) rfl; have e0 := hH.slot 4 36 d4 l0; have g0 := hH.holds 4 l0; rw [r4] at g0; rw [g0] at e0; have hB9 := early9 hH.glob (RV.not_yet hH A_10_5 hl); exact ⟨9, #[.int .i64 (uy), .int .i64 (1048576)], by simp [go_sem, e0], Calls.mono (HPy.out w) (by rintro e w2 ⟨rfl, hb⟩; exact ⟨_, rfl, (r5 _ _).mpr rfl, fun j v _ h => K j v _ _ h, Or.inl ⟨by rw [RV.more_ne (L := L) (i := 5) (j := 10) (by decide)]; exact RV.not_yet hH A_10_5 hl, hB9.trans (hb.mono hB9.size)⟩⟩)⟩)) ?_
    refine RV.AllDo.cons 6 (RV.does_pure (fun γ v L w hl h => by rw [RV.more_ne (L := L) (i := 6) (j := 10) (by decide)]; exact h) (fun γ L a w hH hl hA => by have e0 := E3 γ L a w hH; exact ⟨.pointer (some ⟨yb, 2, none⟩), by simp [execOp, go_sem, e0], (r6 _ _).mpr rfl⟩)) ?_
    refine RV.AllDo.cons 7 (RV.does_pure (fun γ v L w hl h => by rw [RV.more_ne (L := L) (i := 7) (j := 10) (by decide)]; exact h) (fun γ L a w hH hl hA => by have l0 : L 6 = true := hA ⟨6, .data⟩ (by simp) rfl; have e0 := hH.slot 6 38 d6 l0; have g0 := hH.holds 6 l0; rw [r6] at g0; rw [g0] at e0; have hB9 := early9 hH.glob (RV.not_yet hH A_10_7 hl); have z0 := c_after hB9 c2; exact ⟨.int .i64 (uz), by simp [execOp, go_sem, e0, z0], (r7 _ _).mpr rfl⟩)) ?_
    refine RV.AllDo.cons 8 (RV.does_call (fun γ L a w hH hl hA => by have l0 : L 7 = true := hA ⟨7, .data⟩ (by simp) rfl; have e0 := hH.slot 7 39 d7 l0; have g0 := hH.holds 7 l0; rw [r7] at g0; rw [g0] at e0; have hB9 := early9 hH.glob (RV.not_yet hH A_10_8 hl); exact ⟨9, #[.int .i64 (uz), .int .i64 (1048576)], by simp [go_sem, e0], Calls.mono (HPz.out w) (by rintro e w2 ⟨rfl, hb⟩; exact ⟨_, rfl, (r8 _ _).mpr rfl, fun j v _ h => K j v _ _ h, Or.inl ⟨by rw [RV.more_ne (L := L) (i := 8) (j := 10) (by decide)]; exact RV.not_yet hH A_10_8 hl, hB9.trans (hb.mono hB9.size)⟩⟩)⟩)) ?_
    refine RV.AllDo.cons 9 (RV.does_pure (fun γ v L w hl h => by rw [RV.more_ne (L := L) (i := 9) (j := 10) (by decide)]; exact h) (fun γ L a w hH hl hA => by have l0 : L 2 = true := hA ⟨2, .data⟩ (by simp) rfl; have e0 := hH.slot 2 34 d2 l0; have g0 := hH.holds 2 l0; rw [r2] at g0; rw [g0] at e0; have l1 : L 5 = true := hA ⟨5, .data⟩ (by simp) rfl; have e1 := hH.slot 5 37 d5 l1; have g1 := hH.holds 5 l1; rw [r5] at g1; rw [g1] at e1; have l2 : L 8 = true := hA ⟨8, .data⟩ (by simp) rfl; have e2 := hH.slot 8 40 d8 l2; have g2 := hH.holds 8 l2; rw [r8] at g2; rw [g2] at e2; exact ⟨.agg #[.int .i64 (sx), .int .i64 (sy), .int .i64 (sz)], by simp [execOp, go_sem, e0, e1, e2], (r9 _ _).mpr rfl⟩)) ?_
    refine RV.AllDo.cons 10 (RV.does_store (fun γ L a w hH hl hA => by have e0 := E3 γ L a w hH; have l1 : L 9 = true := hA ⟨9, .data⟩ (by simp) rfl; have e1 := hH.slot 9 41 d9 l1; have g1 := hH.holds 9 l1; rw [r9] at g1; rw [g1] at e1; have hB9 := early9 hH.glob hl; have z0 := c_after hB9 c0; have zf0 := f_after hB9 c0 f0; have z1 := c_after hB9 c1; have zf1 := f_after hB9 c1 f1; have z2 := c_after hB9 c2; have zf2 := f_after hB9 c2 f2; exact ⟨(((w.setCell ⟨yb, 0, none⟩ (.int .i64 (sx))).setCell ⟨yb, 1, none⟩ (.int .i64 (sy))).setCell ⟨yb, 2, none⟩ (.int .i64 (sz))), by simp [execOp, go_sem, e0, e1, z0, zf0, z1, zf1, z2, zf2], (r10 _ _).mpr trivial, fun j v _ h => K j v _ _ h, Or.inr ⟨RV.more_self, w, hB9, rfl⟩⟩)) ?_
    exact RV.AllDo.nil
  · intro γ a5 w5 L9 hL hLo hH
    have ha := RV.held_act hH hL (by kernel_rfl) (by kernel_rfl)
    obtain ⟨w8, hb8, rfl⟩ := late9 hH.glob (hL 10 (by decide))
    have y0 : γ 0 = .pointer (some ⟨yb, 0, none⟩) := hH.holds 0 (hL 0 (by decide))
    have y1 : γ 1 = .int .i64 (ux) := hH.holds 1 (hL 1 (by decide))
    have y2 : γ 2 = .int .i64 (sx) := hH.holds 2 (hL 2 (by decide))
    have y3 : γ 3 = .pointer (some ⟨yb, 1, none⟩) := hH.holds 3 (hL 3 (by decide))
    have y4 : γ 4 = .int .i64 (uy) := hH.holds 4 (hL 4 (by decide))
    have y5 : γ 5 = .int .i64 (sy) := hH.holds 5 (hL 5 (by decide))
    have y6 : γ 6 = .pointer (some ⟨yb, 2, none⟩) := hH.holds 6 (hL 6 (by decide))
    have y7 : γ 7 = .int .i64 (uz) := hH.holds 7 (hL 7 (by decide))
    have y8 : γ 8 = .int .i64 (sz) := hH.holds 8 (hL 8 (by decide))
    have y9 : γ 9 = .agg #[.int .i64 (sx), .int .i64 (sy), .int .i64 (sz)] := hH.holds 9 (hL 9 (by decide))
    rw [ha]
    clear ha hH hL hLo
    simp only [RV.putAll, Act.put, List.setIfInBounds_toArray, List.set_cons_zero, List.set_cons_succ, Nat.zero_add, Nat.reduceAdd, y0, y1, y2, y3, y4, y5, y6, y7, y8, y9]
    clear y0 y1 y2 y3 y4 y5 y6 y7 y8 y9
    have HX8 := b_step HX6.out hb8
    have D0 := CelW.step CY.out hb8
    have D1 := CelW.set D0 0 (.int .i64 sx) (by simp)
    have D2 := CelW.set D1 1 (.int .i64 sy) (by simp)
    have D3 := CelW.set D2 2 (.int .i64 sz) (by simp)
    obtain ⟨W8, hW8⟩ : ∃ V, V = (((w8.setCell ⟨yb, 0, none⟩ (.int .i64 sx)).setCell ⟨yb, 1, none⟩ (.int .i64 sy)).setCell ⟨yb, 2, none⟩ (.int .i64 sz)) := ⟨_, rfl⟩
    have oth : ∀ {c : Nat} {vs : List Value}, c ≠ yb → CelW V6 c vs → CelW W8 c vs := fun hc h => by rw [hW8]; exact (((h.step hb8).other hc 0 _).other hc 1 _).other hc 2 _
    have hWB : Below w0.heap.size w0 W8 := by rw [hW8]; exact (((b_step HB.out hb8).setCell FAR.out.2 _).setCell FAR.out.2 _).setCell FAR.out.2 _
    have CY : Hid (CelW W8 yb [.int .i64 sx, .int .i64 sy, .int .i64 sz]) := by show CelW _ _ _; rw [hW8]; exact D3
    have CA : Hid _ := oth (Ne.symm FAR.out.1.1) CA.out
    have CB : Hid _ := oth (Ne.symm FAR.out.1.2) CB.out
    have CX : Hid _ := oth (Ne.symm hxy) CX.out
    have CZ : Hid _ := oth (Ne.symm hyz) CZ.out
    have lie : ∀ {v : Value} {L : List Pt}, Lies X v L → (∀ q n c, v = .slice (some q) n c → L ≠ [] → q.block ≠ yb) → Lies W8 v L := fun l h => by rw [hW8]; exact (l.below HX8).put h _ _ _
    have A1 : Hid _ := lie A1.out NY.out.1
    have A2 : Hid _ := lie A2.out NY.out.2.1
    have A3 : Hid _ := lie A3.out NY.out.2.2.1
    have B1 : Hid _ := lie B1.out NY.out.2.2.2.1
    have B2 : Hid _ := lie B2.out NY.out.2.2.2.2.1
    have B3 : Hid _ := lie B3.out NY.out.2.2.2.2.2
    rw [← hW8]
    have HB : Hid _ := hWB
    clear lie oth hWB D0 D1 D2 D3 hW8 hb8 HX8 HX6 c0 c1 c2 f0 f1 f2 HPx HPy HPz NY FAR hxy hyz
    go_upto_region 6 with fail
    have x0 := (CA.out 0 _ rfl).1
    have y0 := (CB.out 0 _ rfl).1
    have x1 := (CA.out 1 _ rfl).1
    have y1 := (CB.out 1 _ rfl).1
    have x2 := (CA.out 2 _ rfl).1
    have y2 := (CB.out 2 _ rfl).1
    have x3 := (CA.out 3 _ rfl).1
    have y3 := (CB.out 3 _ rfl).1
    have z0 := (CY.out 0 _ rfl).1
    have z1 := (CY.out 1 _ rfl).1
    have z2 := (CY.out 2 _ rfl).1
    refine RV.region_is [.some (.agg #[.slice ao1 a.P.length ac1, .slice ao2 a.A.length ac2, .slice ao3 a.E.length ac3, .int .i64 a.r]), .some (.agg #[.int .i64 sx, .int .i64 sy, .int .i64 sz]), none, .some (.agg #[.slice bo1 b.P.length bc1, .slice bo2 b.A.length bc2, .slice bo3 b.E.length bc3, .int .i64 b.r]), .some (.agg #[.int .i64 sx, .int .i64 sy, .int .i64 sz]), none, .some (.tuple #[.agg #[.int .i64 tx, .int .i64 ty, .int .i64 tz, .int .i64 rg], .bool true]), .some (.tuple #[.agg #[.int .i64 tx, .int .i64 ty, .int .i64 tz, .int .i64 rg], .bool true]), .some (.agg #[.int .i64 tx, .int .i64 ty, .int .i64 tz, .int .i64 rg]), .some (.bool true), none, none, .some (.bool true)] [44, 45, 46, 47, 48, 49, 50, 43, 51, 52, 13, 0, 14] [(6, .pointer (some ⟨ab, 0, none⟩)), (3, .pointer (some ⟨yb, 0, none⟩)), (7, .pointer (some ⟨bb, 0, none⟩))] (fun γ L w => MwG W8 ⟨Pm, a.A, a.E, a.r⟩ ⟨Qm, b.A, b.E, b.r⟩ #[.int .i64 tx, .int .i64 ty, .int .i64 tz, .int .i64 rg] γ L w) (by kernel_rfl) (by kernel_rfl) (by kernel_rfl) (by kernel_rfl) (by kernel_rfl) (by kernel_rfl) (by kernel_rfl) ⟨rfl, rfl, rfl, trivial⟩ ⟨(Below.refl _ W8).drew, (fun e => by cases e), (fun e => by cases e), RV.Pend.start rfl⟩ ?_ ?_
    · intro D WA Z hD hWA hZ T
      simp only [RV.Outs, RV.Slots, Nat.reduceAdd] at T
      (refine RV.AllDo.cons _ (RV.pu T (fun γ v L w hl h => h.other _ (by decide) (by decide) (by decide) (by decide) (by decide)) (fun γ L a w hH hl h9 k9 => ⟨_, ?_, rfl⟩)) ?_; · have q0 := c_after hH.glob.1 x0; have q1 := c_after hH.glob.1 x1; have q2 := c_after hH.glob.1 x2; have q3 := c_after hH.glob.1 x3; simp [execOp, go_sem, h9, q0, q1, q2, q3])
      (refine RV.AllDo.cons _ (RV.pu T (fun γ v L w hl h => h.other _ (by decide) (by decide) (by decide) (by decide) (by decide)) (fun γ L a w hH hl h9 k9 => ⟨_, ?_, rfl⟩)) ?_; · have q0 := c_after hH.glob.1 z0; have q1 := c_after hH.glob.1 z1; have q2 := c_after hH.glob.1 z2; simp [execOp, go_sem, h9, q0, q1, q2])
      refine RV.AllDo.cons _ (RV.does_call (fun γ L a w hH hl hA => by have h9 := T γ L a w hH; have k9 := hA; simp [Region.binds] at k9; exact ⟨_, _, by simp [go_sem, h9, k9], Calls.mono (HMA2.out w (A1.out.below hH.glob.1) (A2.out.below hH.glob.1) (A3.out.below hH.glob.1)) (by rintro e w2 ⟨vp, va, ve, rfl, hT⟩; exact ⟨_, rfl, trivial, fun j v _ h => h.keep _, hH.glob.got2 hT⟩)⟩)) ?_
      (refine RV.AllDo.cons _ (RV.pu T (fun γ v L w hl h => h.other _ (by decide) (by decide) (by decide) (by decide) (by decide)) (fun γ L a w hH hl h9 k9 => ⟨_, ?_, rfl⟩)) ?_; · have q0 := c_after hH.glob.1 y0; have q1 := c_after hH.glob.1 y1; have q2 := c_after hH.glob.1 y2; have q3 := c_after hH.glob.1 y3; simp [execOp, go_sem, h9, q0, q1, q2, q3])
      (refine RV.AllDo.cons _ (RV.pu T (fun γ v L w hl h => h.other _ (by decide) (by decide) (by decide) (by decide) (by decide)) (fun γ L a w hH hl h9 k9 => ⟨_, ?_, rfl⟩)) ?_; · have q0 := c_after hH.glob.1 z0; have q1 := c_after hH.glob.1 z1; have q2 := c_after hH.glob.1 z2; simp [execOp, go_sem, h9, q0, q1, q2])
      refine RV.AllDo.cons _ (RV.does_call (fun γ L a w hH hl hA => by have h9 := T γ L a w hH; have k9 := hA; simp [Region.binds] at k9; exact ⟨_, _, by simp [go_sem, h9, k9], Calls.mono (HMB2.out w (B1.out.below hH.glob.1) (B2.out.below hH.glob.1) (B3.out.below hH.glob.1)) (by rintro e w2 ⟨vp, va, ve, rfl, hT⟩; exact ⟨_, rfl, trivial, fun j v _ h => h.keep _, hH.glob.got5 hT⟩)⟩)) ?_
      refine RV.AllDo.cons _ (RV.does_call (fun γ L a w hH hl hA => by have l2 : L 2 = true := hA ⟨2, .data⟩ (by simp) rfl; have e2 := hH.slot 2 45 (by rw [← hD]; rfl) l2; have l5 : L 5 = true := hA ⟨5, .data⟩ (by simp) rfl; have e5 := hH.slot 5 48 (by rw [← hD]; rfl) l5; obtain ⟨vp, va, ve, g1, g2, g3, g4⟩ := hH.glob.2.1 l2 hl; obtain ⟨up, ua, ue, k1, k2, k3, k4⟩ := hH.glob.2.2.1 l5 hl; rw [g1] at e2; rw [k1] at e5; exact ⟨_, _, by simp [go_sem, e2, e5], Calls.mono (HA3.out vp va ve up ua ue w g2 g3 g4 k2 k3 k4) (by rintro e w2 ⟨rfl, hb⟩; exact ⟨_, rfl, rfl, fun j v _ h => h.keep _, hH.glob.told hb _⟩)⟩)) ?_
      iterate 3 (refine RV.AllDo.cons _ (RV.pu T (fun γ v L w hl h => h.other _ (by decide) (by decide) (by decide) (by decide) (by decide)) (fun γ L a w hH hl h9 k9 => ⟨_, ?_, rfl⟩)) ?_; · simp [Region.binds] at k9; simp [execOp, go_sem, h9, k9])
      refine RV.AllDo.cons _ (RV.does_step (fun γ L a w hH hl hA => by exact ⟨.pointer (some ⟨w.heap.size, 0, none⟩), w.alloc (.cells #[.int .i64 0, .int .i64 0, .int .i64 0, .int .i64 0] 40), by simp [execOp, go_sem], trivial, fun j v _ h => h.keep _, hH.glob.made (RV.not_yet hH (RV.wt (j := 11) (i := 10) hWA (by kernel_rfl)) hl) rfl⟩)) ?_
      refine RV.AllDo.cons _ (RV.does_store (fun γ L a w hH hl hA => by have h9 := T γ L a w hH; have k9 := hA; simp [Region.binds] at k9; have l0 : L 10 = true := hA ⟨10, .data⟩ (by simp) rfl; have l8 : L 8 = true := hA ⟨8, .data⟩ (by simp) rfl; have l7 : L 7 = true := hH.closed 8 7 (RV.wt hWA (by kernel_rfl)) l8; have l6 : L 6 = true := hH.closed 7 6 (RV.wt hWA (by kernel_rfl)) l7; have e0 := hH.slot 10 12 (by rw [← hD]; rfl) l0; obtain ⟨b, cs, hb1, hb2, hb3, hb4, _⟩ := hH.glob.2.2.2 l0; have hfl := hH.glob.fill l6 hb1 hb2 hb3 hb4; rw [hb1] at e0; obtain ⟨u0, u1, u2, u3, rfl⟩ := arr4m hb4; have z09 : w.cell? ⟨b, 0, none⟩ = some u0 := (by simp [World.cell?, hb3]); have z19 : w.cell? ⟨b, 1, none⟩ = some u1 := (by simp [World.cell?, hb3]); have z29 : w.cell? ⟨b, 2, none⟩ = some u2 := (by simp [World.cell?, hb3]); have z39 : w.cell? ⟨b, 3, none⟩ = some u3 := (by simp [World.cell?, hb3]); have zf : ∀ o, w.frozen? ⟨b, o, none⟩ = false := fun o => (by simp [World.frozen?, hb3]); exact ⟨_, by simp [execOp, go_sem, e0, h9, k9, z09, z19, z29, z39, zf]; rfl, trivial, fun j v _ h => h.keep _, hfl _⟩)) ?_
      (refine RV.AllDo.cons _ (RV.pu T (fun γ v L w hl h => h.other _ (by decide) (by decide) (by decide) (by decide) (by decide)) (fun γ L a w hH hl h9 k9 => ⟨_, ?_, rfl⟩)) ?_; · simp [Region.binds] at k9; simp [execOp, go_sem, h9, k9])
      exact RV.AllDo.nil
    · intro γ w5 L9 hL hI9 hG9
      obtain ⟨nb, cs, hb1, hb2, hb3, _, hb5⟩ := hG9.2.2.2 (hL 10 (by decide))
      rw [hb5 (hL 11 (by decide))] at hb3
      have hb8 := hG9.1
      have CA : Hid _ := CelW.step CA.out hb8
      have CB : Hid _ := CelW.step CB.out hb8
      have CX : Hid _ := CelW.step CX.out hb8
      have CZ : Hid _ := CelW.step CZ.out hb8
      have HB : Hid _ := b_step HB.out hb8
      have L1 : Hid _ := B1.out.below hb8
      have L2 : Hid _ := A1.out.below hb8
      simp only [RV.putL, Act.put, List.setIfInBounds_toArray, List.set_cons_zero, List.set_cons_succ, Nat.reduceAdd]
      rw [hb1]
      clear x0 x1 x2 x3 y0 y1 y2 y3 z0 z1 z2
      have k0 : w5.cell? ⟨nb, 0, none⟩ = some (.int .i64 tx) := by simp [World.cell?, hb3]
      have k1 : w5.cell? ⟨nb, 1, none⟩ = some (.int .i64 ty) := by simp [World.cell?, hb3]
      have k2 : w5.cell? ⟨nb, 2, none⟩ = some (.int .i64 tz) := by simp [World.cell?, hb3]
      have k3 : w5.cell? ⟨nb, 3, none⟩ = some (.int .i64 rg) := by simp [World.cell?, hb3]
      clear hG9 hI9 hL hb1 hb2 hb3 hb5 hb8 A1 A2 A3 B1 B2 B3 CY HMA2 HMB2 HA3
      have KK : Hid _ := And.intro k0 (And.intro k1 (And.intro k2 k3))
      have x3 := (CX.out 3 _ rfl).1
      have z3 := (CZ.out 3 _ rfl).1
      have z0 := (CZ.out 0 _ rfl).1
      have z1 := (CZ.out 1 _ rfl).1
      have z2 := (CZ.out 2 _ rfl).1
      have y0 := (CB.out 0 _ rfl).1
      have y1 := (CB.out 1 _ rfl).1
      have y2 := (CB.out 2 _ rfl).1
      have y3 := (CB.out 3 _ rfl).1
      have a0 := (CA.out 0 _ rfl).1
      have a1 := (CA.out 1 _ rfl).1
      have a2 := (CA.out 2 _ rfl).1
      have a3 := (CA.out 3 _ rfl).1
      clear k0 k1 k2 k3
      go_wp2_with (fail)
      refine Calls.mono (HSO.out _ L1.out L2.out) ?_
      rintro e V9 ⟨rfl, hb⟩
      have CX : Hid _ := CelW.step CX.out hb
      have HB : Hid _ := b_step HB.out hb
      have k0 := c_after hb KK.out.1
      have k1 := c_after hb KK.out.2.1
      have k2 := c_after hb KK.out.2.2.1
      have k3 := c_after hb KK.out.2.2.2
      clear x3 z0 z1 z2 z3 y0 y1 y2 y3 a0 a1 a2 a3 KK hb HSO
      have x0 := (CX.out 0 _ rfl).1
      have x1 := (CX.out 1 _ rfl).1
      have x2 := (CX.out 2 _ rfl).1
      have x3 := (CX.out 3 _ rfl).1
      go_wp2_with (fail)
      go_ret
      exact ⟨rfl, HB.out⟩


/-! ### The row's step, after the guide's template -/
set_option maxRecDepth 100000 in
theorem lifted (os : Os) (started : os.Started) (H : Type) (enc : TypeId × Value → H) :
    ReturnsInHanded {} Try.checked os 4 .any (Rows.narrowMirrorSpec.pre6 enc Try.prog Try.f4 Rows.narrowMirrorRow.domain false) (Rows.narrowMirrorSpec.post enc Try.prog Try.f4 false true false false) := by
  refine returnsInHanded_of_change (C := Try.checked) own started (by kernel_rfl) Try.func4
    (ChangeSpec.witness6 (enc := enc) (C := Try.checked) false ⟨#[], #[.agg #[.int .i64 0, .int .i64 0, .int .i64 0, .int .i64 0, .int .i64 0, .slice none 0 0, .int .i64 0, .int .i64 0, .int .i64 0, .int .i64 0, .int .i64 0, .slice none 0 0, .int .i64 0, .int .i64 0, .int .i64 0, .int .i64 0, .int .i64 0, .int .i64 0, .int .i64 0, .int .i64 0, .int .i64 0, .int .i64 0, .int .i64 0, .int .i64 0, .int .i64 0, .int .i64 0, .int .i64 0, .int .i64 0, .int .i64 0, .int .i64 0], .agg #[.int .i64 0, .int .i64 0, .int .i64 0]], []⟩ 8 (by kernel_rfl) (by kernel_rfl) (by kernel_rfl) (by kernel_rfl)) ?_
  intro W base args ds gs before hval0 hW hcnd _
  have hval : ∀ (j : Nat) t v, Try.f4.params[j]? = some t → args[j]? = some v → Value.okWide Try.prog W .any base t v := hval0
  have hW' := hW
  obtain ⟨p, q, hA0, hV, rfl, hfz, hnd⟩ := hW
  have hA : DataW.TrodAll enc Try.prog W 0 (fun _ => true) true Try.f4.params.toList args.toList ds p := hA0
  rw [Try.params4] at hA hval
  obtain ⟨v0, vs0, d0, ds0, p0, q0, hargs, rfl, rfl, h0, r0⟩ := trodAll_cons hA
  obtain ⟨v1, vs1, d1, ds1, p1, q1, rfl, rfl, rfl, h1, r1⟩ := trodAll_cons r0
  obtain ⟨rfl, rfl, rfl⟩ := trodAll_nil r1
  obtain rfl : args = #[v0, v1] := by cases args; simp_all
  obtain ⟨rfl, rfl⟩ := trodVars_none hV
  have k0 := h0
  have lt0 : ∀ x ∈ p0, x.block < W.heap.size := by obtain ⟨m, hm⟩ := k0; exact DataW.trod_lt m _ _ _ hm
  obtain ⟨k1t, r1t, x1t, y1t, z1t, o1t, L1t, c1t, k2t, r2t, x2t, y2t, z2t, o2t, L2t, c2t, p0t, p1t, p2t, p3t, p4t, p5t, p6t, q0t, q1t, q2t, q3t, q4t, q5t, q6t, nrt, wxt, wyt, wzt, rfl, hL1t, hF1t, hL2t, hF2t, hbst⟩ := open_two (hval 0 33 v0 rfl rfl) h0
  have k1 := h1
  have lt1 : ∀ x ∈ p1, x.block < W.heap.size := by obtain ⟨m, hm⟩ := k1; exact DataW.trod_lt m _ _ _ hm
  obtain ⟨tx1, ty1, tz1, rfl, _, _, nx1, ny1, nz1⟩ := open_point (hval 1 23 v1 rfl rfl) h1
  have btx1_ := bounds_i64 nx1
  have bty1_ := bounds_i64 ny1
  have btz1_ := bounds_i64 nz1
  clear hA0 hval0
  refine (walk k1t r1t x1t y1t z1t o1t L1t c1t k2t r2t x2t y2t z2t o2t L2t c2t p0t p1t p2t p3t p4t p5t p6t q0t q1t q2t q3t q4t q5t q6t nrt wxt wyt wzt tx1 ty1 tz1 W hbst hL1t hF1t hL2t hF2t (by omega) (by omega) (by omega)).mono fun e W' ⟨he, bel⟩ => ?_
  subst he
  exact ⟨_, rfl, _, _, _, [], _, [], hW', trodAll_mk1 (shut_bool Try.underlying4 _), (trodAll_cons_mk (Below.trod laidOut (by kernel_rfl) (of_decide_eq_true (by kernel_rfl)) k0 bel lt0) (trodAll_cons_mk (Below.trod laidOut (by kernel_rfl) (of_decide_eq_true (by kernel_rfl)) k1 bel lt1) trodAll_mk0)), rfl, bel.frame _, fun h => by cases h⟩

theorem over : Rows.narrowMirrorRow.holds Try.pinned (OpenSpec.ofChange Rows.narrowMirrorSpec) :=
  OpenClaim.holds_of_wide 4 Try.f4 rfl rfl rfl rfl rfl rfl rfl ⟨rfl, rfl, rfl, rfl, rfl⟩ rfl rfl rfl rfl rfl (by kernel_rfl) Try.func4 (by kernel_rfl)
    (of_decide_eq_true (by kernel_rfl)) (by unfold Func.isWrapper; first | (rw [if_pos (by decide +kernel)]; kernel_rfl) | (rw [if_neg (by decide +kernel)]; exact ⟨rfl, rfl⟩))
    (fun os started H enc _ => lifted os started H enc)

end narrowMirror

theorem narrowMirror_holds : Rows.NarrowMirrorSaid := narrowMirror.over
#print axioms narrowMirror_holds
end Go.Proofs.Ytfalniafkambmaa
