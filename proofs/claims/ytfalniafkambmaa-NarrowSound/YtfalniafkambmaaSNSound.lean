/- What is told can be checked by anybody: along the direction all of the points of the second one lie by the gap and both radii beyond all of the first one: for all raw shapes and poses. -/
import Derived.Test.YtfalniafkambmaaBNS24
import Derived.Test.YtfalniafkambmaaBNS0
import Derived.Test.YtfalniafkambmaaProg
import Derived.WalkKit
import Derived.Orders
import Derived.Below
import Derived.Laws.Rows
import Derived.Test.YtfalniafkambmaaBNS23
import Derived.Test.YtfalniafkambmaaBNS18
import Derived.Test.YtfalniafkambmaaBNS17
import Derived.Test.YtfalniafkambmaaBNS11
import Derived.Test.YtfalniafkambmaaBNS7
import Derived.Test.YtfalniafkambmaaBNS3
import Derived.Test.YtfalniafkambmaaBNS2
import Derived.RangeFuncNested
import Derived.RangeFuncBound
import Derived.RangeFuncCalls
import Derived.RangeFuncLeaves
import Derived.RangeFuncBox
import Derived.Shelf.Abstract
import Derived.OwnWalkIn
import Derived.TacticsInMore
import Derived.LoopNIn
import Derived.LoopIn
import Derived.LoopTactic
import Derived.ProofKit
import Derived.Handy
import Derived.Test.YtfalniafkambmaaBNS1
import Derived.Laws.MakeOwn
import Derived.Laws.OwnMore
import Derived.Maps.AppendAt
import Derived.Deep.RegionWith
import Derived.Deep.QuietTactic
import Derived.BigQuiet
import Derived.Deep.CutBlock
import Derived.Deep.CutRange
import Derived.Deep.LoopGhost
import Derived.Lib.SmallJoins
import Derived.RowKit
import Derived.OneCell
import Derived.WalkMore
import Derived.Lib.BufferMore
import Derived.Laws.MathBits
import Derived.Laws.Externs
import Derived.Laws.BitsAllLaws
import Derived.WalkLawsBesides
import Derived.Deep.MidRow
import Derived.Test.YtfalniafkambmaaBNS6
import Derived.Test.YtfalniafkambmaaBNS5
import Derived.Test.YtfalniafkambmaaBNS4
import Derived.Test.YtfalniafkambmaaBNS10
import Derived.Test.YtfalniafkambmaaBNS9
import Derived.Test.YtfalniafkambmaaBNS8
import Derived.Deep.RegionHeld3
import Derived.Test.YtfalniafkambmaaBNS13
import Derived.Test.YtfalniafkambmaaBNS12
import Derived.Test.YtfalniafkambmaaBNS16
import Derived.Test.YtfalniafkambmaaBNS15
import Derived.Test.YtfalniafkambmaaBNS14
import Derived.Test.YtfalniafkambmaaBNS22
import Derived.Test.YtfalniafkambmaaBNS21
import Derived.Test.YtfalniafkambmaaBNS20
import Derived.Test.YtfalniafkambmaaBNS19
import Derived.Scope
import Derived.OrdersIn
import Derived.Sort.CutIn
import Derived.Test.YtfalniafkambmaaBNS25
import Derived.OpenShut
import Derived.Deep.Slices
import Derived.Test.YtfalniafkambmaaRows
namespace Go.Proofs.Ytfalniafkambmaa
namespace narrowSound
open Go.ChangeShapes Go.WideShapes Go.ChangeAt Go.RowKit Go.Shelf
set_option linter.unusedVariables false

theorem own : ownKnob Try.prog.godebug = none := by kernel_rfl
theorem laidOut : laidOutB Try.prog = true := by kernel_rfl

set_option maxHeartbeats 8000000 in
set_option maxRecDepth 100000 in
theorem walk (k1 r1 x1 y1 z1 : Int) (o1 : Option Addr) (L1 : List Pt) (c1 : Nat) (k2 r2 x2 y2 z2 : Int) (o2 : Option Addr) (L2 : List Pt) (c2 : Nat) (p0 p1 p2 p3 p4 p5 p6 q0 q1 q2 q3 q4 q5 q6 nr wx wy wz : Int) (w0 : World) (hb : ∀ v ∈ ([k1, r1, x1, y1, z1, k2, r2, x2, y2, z2, p0, p1, p2, p3, p4, p5, p6, q0, q1, q2, q3, q4, q5, q6, nr, wx, wy, wz] : List Int), -9223372036854775808 ≤ v ∧ v ≤ 9223372036854775807) (hL1 : Lies w0 (.slice o1 L1.length c1) L1) (hF1 : ∀ p ∈ L1, p.fits) (hL2 : Lies w0 (.slice o2 L2.length c2) L2) (hF2 : ∀ p ∈ L2, p.fits) :
    Calls Try.prog 3 #[.agg #[.int .i64 k1, .int .i64 r1, .int .i64 x1, .int .i64 y1, .int .i64 z1, .slice o1 L1.length c1, .int .i64 k2, .int .i64 r2, .int .i64 x2, .int .i64 y2, .int .i64 z2, .slice o2 L2.length c2, .int .i64 p0, .int .i64 p1, .int .i64 p2, .int .i64 p3, .int .i64 p4, .int .i64 p5, .int .i64 p6, .int .i64 q0, .int .i64 q1, .int .i64 q2, .int .i64 q3, .int .i64 q4, .int .i64 q5, .int .i64 q6, .int .i64 nr, .int .i64 wx, .int .i64 wy, .int .i64 wz]] w0 fun e w' => e = .returned (.bool true) ∧ Below w0.heap.size w0 w' := by
  have HCO : Hid _ := fun w' (h : Below w0.heap.size w0 w') => cores_any k1 r1 x1 y1 z1 o1 L1 c1 k2 r2 x2 y2 z2 o2 L2 c2 p0 p1 p2 p3 p4 p5 p6 q0 q1 q2 q3 q4 q5 q6 nr wx wy wz w' hb (hL1.below h) hF1 (hL2.below h) hF2
  have AW : Hid _ := fun W => awake9_any W
  clear hb hL1 hF1 hL2 hF2
  obtain ⟨W1, hW1⟩ : ∃ W1, W1 = w0.alloc (.cells #[.int .i64 k1, .int .i64 r1, .int .i64 x1, .int .i64 y1, .int .i64 z1, .slice o1 L1.length c1, .int .i64 k2, .int .i64 r2, .int .i64 x2, .int .i64 y2, .int .i64 z2, .slice o2 L2.length c2, .int .i64 p0, .int .i64 p1, .int .i64 p2, .int .i64 p3, .int .i64 p4, .int .i64 p5, .int .i64 p6, .int .i64 q0, .int .i64 q1, .int .i64 q2, .int .i64 q3, .int .i64 q4, .int .i64 q5, .int .i64 q6, .int .i64 nr, .int .i64 wx, .int .i64 wy, .int .i64 wz] 33) := ⟨_, rfl⟩
  have CW : Hid (Cel W1 w0.heap.size [.int .i64 k1, .int .i64 r1, .int .i64 x1, .int .i64 y1, .int .i64 z1, .slice o1 L1.length c1, .int .i64 k2, .int .i64 r2, .int .i64 x2, .int .i64 y2, .int .i64 z2, .slice o2 L2.length c2, .int .i64 p0, .int .i64 p1, .int .i64 p2, .int .i64 p3, .int .i64 p4, .int .i64 p5, .int .i64 p6, .int .i64 q0, .int .i64 q1, .int .i64 q2, .int .i64 q3, .int .i64 q4, .int .i64 q5, .int .i64 q6, .int .i64 nr, .int .i64 wx, .int .i64 wy, .int .i64 wz]) := by show Cel _ _ _; rw [hW1]; exact Cel.new w0 [.int .i64 k1, .int .i64 r1, .int .i64 x1, .int .i64 y1, .int .i64 z1, .slice o1 L1.length c1, .int .i64 k2, .int .i64 r2, .int .i64 x2, .int .i64 y2, .int .i64 z2, .slice o2 L2.length c2, .int .i64 p0, .int .i64 p1, .int .i64 p2, .int .i64 p3, .int .i64 p4, .int .i64 p5, .int .i64 p6, .int .i64 q0, .int .i64 q1, .int .i64 q2, .int .i64 q3, .int .i64 q4, .int .i64 q5, .int .i64 q6, .int .i64 nr, .int .i64 wx, .int .i64 wy, .int .i64 wz] _
  have HB : Hid (Below w0.heap.size w0 W1) := by show Below _ _ _; rw [hW1]; exact n_after _ _
  obtain ⟨tb, htb⟩ : ∃ b, b = w0.heap.size := ⟨_, rfl⟩
  rw [← htb] at CW
  go_enter Try.func3, Try.ntmps3
  go_upto_region 1 with fail
  rw [← hW1, ← htb]
  clear hW1 htb
  go_wp2_with (fail)
  refine Calls.mono (AW.out _) ?_
  rintro e V1 ⟨rfl, hb⟩
  have CW : Hid _ := Cel.step CW.out hb
  have HB : Hid _ := b_step HB.out hb
  clear hb AW
  have HRG : Hid (World.rangeAt V1 tb 0 [.int .i64 k1, .int .i64 r1, .int .i64 x1, .int .i64 y1, .int .i64 z1, .slice o1 L1.length c1, .int .i64 k2, .int .i64 r2, .int .i64 x2, .int .i64 y2, .int .i64 z2, .slice o2 L2.length c2, .int .i64 p0, .int .i64 p1, .int .i64 p2, .int .i64 p3, .int .i64 p4, .int .i64 p5, .int .i64 p6, .int .i64 q0, .int .i64 q1, .int .i64 q2, .int .i64 q3, .int .i64 q4, .int .i64 q5, .int .i64 q6, .int .i64 nr, .int .i64 wx, .int .i64 wy, .int .i64 wz]) := fun j v e => by rw [Nat.zero_add]; exact CW.out j v e
  clear CW
  go_wp2_with (refine wpList_load_mid rfl 33 _ rfl tb 0 rfl [.int .i64 k1, .int .i64 r1, .int .i64 x1, .int .i64 y1, .int .i64 z1, .slice o1 L1.length c1, .int .i64 k2, .int .i64 r2, .int .i64 x2, .int .i64 y2, .int .i64 z2, .slice o2 L2.length c2, .int .i64 p0, .int .i64 p1, .int .i64 p2, .int .i64 p3, .int .i64 p4, .int .i64 p5, .int .i64 p6, .int .i64 q0, .int .i64 q1, .int .i64 q2, .int .i64 q3, .int .i64 q4, .int .i64 q5, .int .i64 q6, .int .i64 nr, .int .i64 wx, .int .i64 wy, .int .i64 wz] _ HRG.out Try.underlying33 rfl (by kernel_rfl) ?_)
  refine Calls.mono (HCO.out _ HB.out) ?_
  rintro e V2 ⟨a, b, va1, va2, va3, vb1, vb2, vb3, rfl, HLI, hNA, hNB, hRA, hRB, _⟩
  have hMA := hNA.1
  have hMB := hNB.1
  obtain ⟨hl1, hl2, hl3, hl4, hl5, hl6, hb⟩ := HLI.out
  have HB : Hid _ := b_step HB.out hb
  have A1 : Hid _ := hl1
  have A2 : Hid _ := hl2
  have A3 : Hid _ := hl3
  have B1 : Hid _ := hl4
  have B2 : Hid _ := hl5
  have B3 : Hid _ := hl6
  obtain ⟨ao1, ac1, rfl, _⟩ := hl1.form
  obtain ⟨ao2, ac2, rfl, _⟩ := hl2.form
  obtain ⟨ao3, ac3, rfl, _⟩ := hl3.form
  obtain ⟨bo1, bc1, rfl, _⟩ := hl4.form
  obtain ⟨bo2, bc2, rfl, _⟩ := hl5.form
  obtain ⟨bo3, bc3, rfl, _⟩ := hl6.form
  clear HLI hl1 hl2 hl3 hl4 hl5 hl6 hb HCO HRG
  obtain ⟨X, hX⟩ : ∃ V, V = (V2.alloc (.cells #[.slice ao1 a.P.length ac1, .slice ao2 a.A.length ac2, .slice ao3 a.E.length ac3, .int .i64 a.r] 36)).alloc (.cells #[.slice bo1 b.P.length bc1, .slice bo2 b.A.length bc2, .slice bo3 b.E.length bc3, .int .i64 b.r] 36) := ⟨_, rfl⟩
  obtain ⟨ab, hab⟩ : ∃ b, b = V2.heap.size := ⟨_, rfl⟩
  obtain ⟨bb, hbb⟩ : ∃ b, b = V2.heap.size + 1 := ⟨_, rfl⟩
  have hbx : Below V2.heap.size V2 X := by rw [hX]; exact b_step (n_after _ _) (n_after _ _)
  have n2 := CelW.new (V2.alloc (.cells #[.slice ao1 a.P.length ac1, .slice ao2 a.A.length ac2, .slice ao3 a.E.length ac3, .int .i64 a.r] 36)) [.slice bo1 b.P.length bc1, .slice bo2 b.A.length bc2, .slice bo3 b.E.length bc3, .int .i64 b.r] 36
  rw [World.size_alloc] at n2
  have CA : Hid (CelW X ab [.slice ao1 a.P.length ac1, .slice ao2 a.A.length ac2, .slice ao3 a.E.length ac3, .int .i64 a.r]) := by show CelW _ _ _; rw [hX, hab]; exact (CelW.new _ _ _).step (n_after _ _)
  have CB : Hid (CelW X bb [.slice bo1 b.P.length bc1, .slice bo2 b.A.length bc2, .slice bo3 b.E.length bc3, .int .i64 b.r]) := by show CelW _ _ _; rw [hX, hbb]; exact n2
  clear n2
  go_upto_region 3 with fail
  rw [← hX, ← hbb, ← hab]
  have hne : ab ≠ bb ∧ w0.heap.size ≤ ab := by have := HB.out.size; omega
  have HB : Hid _ := b_step HB.out hbx
  have A1 : Hid _ := A1.out.below hbx
  have A2 : Hid _ := A2.out.below hbx
  have A3 : Hid _ := A3.out.below hbx
  have B1 : Hid _ := B1.out.below hbx
  have B2 : Hid _ := B2.out.below hbx
  have B3 : Hid _ := B3.out.below hbx
  clear hX hbb hab hbx
  have HAP : Hid _ := napart_any a.P a.A a.E b.P b.A b.E a.r b.r _ _ _ _ _ _ X A1.out A2.out A3.out B1.out B2.out B3.out
  have HV : Hid (apartV ⟨a.P, a.A, a.E, a.r⟩ ⟨b.P, b.A, b.E, b.r⟩ = .agg #[.int .i64 (told a b).1.x, .int .i64 (told a b).1.y, .int .i64 (told a b).1.z, .int .i64 (told a b).2]) := by show _ = _; unfold apartV; rw [show mayC ⟨a.P, a.A, a.E, a.r⟩ = true from hMA, show mayC ⟨b.P, b.A, b.E, b.r⟩ = true from hMB]; rfl
  have e1 : (mayC ⟨a.P, a.A, a.E, a.r⟩ && mayC ⟨b.P, b.A, b.E, b.r⟩) = true := by rw [show mayC ⟨a.P, a.A, a.E, a.r⟩ = true from hMA, show mayC ⟨b.P, b.A, b.E, b.r⟩ = true from hMB]; rfl
  rw [HV.out, e1] at HAP
  obtain ⟨h1, h2, h3, kk, hk, h4, h5⟩ := NS.sound_facts hMA hMB hNA.2.1.2
  have HSO : Hid _ := fun (w' : World) (h : Below X.heap.size X w') => sound_any a.P b.P (told a b).1 (told a b).2 a.r b.r _ kk ao1 bo1 ac1 bc1 (.slice ao2 a.A.length ac2) (.slice ao3 a.E.length ac3) (.slice bo2 b.A.length bc2) (.slice bo3 b.E.length bc3) w' (A1.out.below h) (B1.out.below h) h1 h2 (by omega) (by omega) rfl h3 (may_facts hMA).2.1 (may_facts hMB).2.1 hk h4 h5 (by have := hNA.2.1.1; omega) (by have := hNB.2.1.1; omega)
  obtain ⟨⟨⟨tx, ty, tz⟩, tg⟩, ht⟩ : ∃ x, told a b = x := ⟨_, rfl⟩
  rw [ht] at HAP HSO
  dsimp only at HAP HSO
  clear ht HV e1 h1 h2 h3 hk h4 h5 A1 A2 A3 B1 B2 B3 hMA hMB hNA hNB hRA hRB hne
  unfold coreA at HAP
  have x0 := (CA.out 0 _ rfl).1
  have y0 := (CB.out 0 _ rfl).1
  have x1 := (CA.out 1 _ rfl).1
  have y1 := (CB.out 1 _ rfl).1
  have x2 := (CA.out 2 _ rfl).1
  have y2 := (CB.out 2 _ rfl).1
  have x3 := (CA.out 3 _ rfl).1
  have y3 := (CB.out 3 _ rfl).1
  go_wp2_with (fail)
  refine Calls.mono HAP.out ?_
  rintro e V3 ⟨rfl, hb⟩
  have HX3 : Hid _ := hb
  have CA : Hid _ := CelW.step CA.out hb
  have CB : Hid _ := CelW.step CB.out hb
  have HB : Hid _ := b_step HB.out hb
  clear hb HAP x0 x1 x2 x3 y0 y1 y2 y3
  obtain ⟨V4, hV4⟩ : ∃ V, V = V3.alloc (.cells #[.int .i64 tx, .int .i64 ty, .int .i64 tz, .int .i64 tg] 40) := ⟨_, rfl⟩
  obtain ⟨xb, hxb⟩ : ∃ b, b = V3.heap.size := ⟨_, rfl⟩
  have hb3 : Below V3.heap.size V3 V4 := by rw [hV4]; exact n_after _ _
  have CX : Hid (Cel V4 xb [.int .i64 tx, .int .i64 ty, .int .i64 tz, .int .i64 tg]) := by show Cel _ _ _; rw [hV4, hxb]; exact Cel.new _ _ _
  go_upto_region 4 with fail
  rw [← hV4, ← hxb]
  have HX4 : Hid _ := b_step HX3.out hb3
  have CA : Hid _ := CelW.step CA.out hb3
  have CB : Hid _ := CelW.step CB.out hb3
  have HB : Hid _ := b_step HB.out hb3
  clear hV4 hxb hb3 HX3
  have x0 := (CA.out 0 _ rfl).1
  have y0 := (CB.out 0 _ rfl).1
  have z0 := CX.out 0 _ rfl
  have x1 := (CA.out 1 _ rfl).1
  have y1 := (CB.out 1 _ rfl).1
  have z1 := CX.out 1 _ rfl
  have x2 := (CA.out 2 _ rfl).1
  have y2 := (CB.out 2 _ rfl).1
  have z2 := CX.out 2 _ rfl
  have x3 := (CA.out 3 _ rfl).1
  have y3 := (CB.out 3 _ rfl).1
  have z3 := CX.out 3 _ rfl
  go_wp2_with (fail)
  refine Calls.mono (HSO.out _ HX4.out) ?_
  rintro e V5 ⟨rfl, hb⟩
  have HB : Hid _ := b_step HB.out hb
  clear hb x0 x1 x2 x3 y0 y1 y2 y3 z0 z1 z2 z3 HSO
  go_wp2_with (fail)
  go_ret
  exact ⟨rfl, HB.out⟩

/-! ### The row's step, after the guide's template -/
set_option maxRecDepth 100000 in
theorem lifted (os : Os) (started : os.Started) (H : Type) (enc : TypeId × Value → H) :
    ReturnsInHanded {} Try.checked os 3 .any (Rows.narrowSoundSpec.pre6 enc Try.prog Try.f3 Rows.narrowSoundRow.domain false) (Rows.narrowSoundSpec.post enc Try.prog Try.f3 false true false false) := by
  refine returnsInHanded_of_change (C := Try.checked) own started (by kernel_rfl) Try.func3
    (ChangeSpec.witness6 (enc := enc) (C := Try.checked) false ⟨#[], #[.agg #[.int .i64 0, .int .i64 0, .int .i64 0, .int .i64 0, .int .i64 0, .slice none 0 0, .int .i64 0, .int .i64 0, .int .i64 0, .int .i64 0, .int .i64 0, .slice none 0 0, .int .i64 0, .int .i64 0, .int .i64 0, .int .i64 0, .int .i64 0, .int .i64 0, .int .i64 0, .int .i64 0, .int .i64 0, .int .i64 0, .int .i64 0, .int .i64 0, .int .i64 0, .int .i64 0, .int .i64 0, .int .i64 0, .int .i64 0, .int .i64 0]], []⟩ 8 (by kernel_rfl) (by kernel_rfl) (by kernel_rfl) (by kernel_rfl)) ?_
  intro W base args ds gs before hval0 hW hcnd _
  have hval : ∀ (j : Nat) t v, Try.f3.params[j]? = some t → args[j]? = some v → Value.okWide Try.prog W .any base t v := hval0
  have hW' := hW
  obtain ⟨p, q, hA0, hV, rfl, hfz, hnd⟩ := hW
  have hA : DataW.TrodAll enc Try.prog W 0 (fun _ => true) true Try.f3.params.toList args.toList ds p := hA0
  rw [Try.params3] at hA hval
  obtain ⟨v0, vs0, d0, ds0, p0, q0, hargs, rfl, rfl, h0, r0⟩ := trodAll_cons hA
  obtain ⟨rfl, rfl, rfl⟩ := trodAll_nil r0
  obtain rfl : args = #[v0] := by cases args; simp_all
  obtain ⟨rfl, rfl⟩ := trodVars_none hV
  have k0 := h0
  have lt0 : ∀ x ∈ p0, x.block < W.heap.size := by obtain ⟨m, hm⟩ := k0; exact DataW.trod_lt m _ _ _ hm
  obtain ⟨kk1, rr1, x1, y1, z1, o1, L1, c1, k2, r2, x2, y2, z2, o2, L2, c2, pp0, p1, p2, p3, p4, p5, p6, q0, q1, q2, q3, q4, q5, q6, nr, wx, wy, wz, rfl, hL1, hF1, hL2, hF2, hbs⟩ := open_two (hval 0 33 v0 rfl rfl) h0
  clear hA0 hval0
  refine (walk kk1 rr1 x1 y1 z1 o1 L1 c1 k2 r2 x2 y2 z2 o2 L2 c2 pp0 p1 p2 p3 p4 p5 p6 q0 q1 q2 q3 q4 q5 q6 nr wx wy wz W hbs hL1 hF1 hL2 hF2).mono fun e W' ⟨he, bel⟩ => ?_
  subst he
  exact ⟨_, rfl, _, _, _, [], _, [], hW', trodAll_mk1 (shut_bool Try.underlying4 _), (trodAll_cons_mk (Below.trod laidOut (by kernel_rfl) (of_decide_eq_true (by kernel_rfl)) k0 bel lt0) trodAll_mk0), rfl, bel.frame _, fun h => by cases h⟩

theorem over : Rows.narrowSoundRow.holds Try.pinned (OpenSpec.ofChange Rows.narrowSoundSpec) :=
  OpenClaim.holds_of_wide 3 Try.f3 rfl rfl rfl rfl rfl rfl rfl ⟨rfl, rfl, rfl, rfl, rfl⟩ rfl rfl rfl rfl rfl (by kernel_rfl) Try.func3 (by kernel_rfl)
    (of_decide_eq_true (by kernel_rfl)) (by unfold Func.isWrapper; first | (rw [if_pos (by decide +kernel)]; kernel_rfl) | (rw [if_neg (by decide +kernel)]; exact ⟨rfl, rfl⟩))
    (fun os started H enc _ => lifted os started H enc)

end narrowSound

theorem narrowSound_holds : Rows.NarrowSoundSaid := narrowSound.over
#print axioms narrowSound_holds
end Go.Proofs.Ytfalniafkambmaa
