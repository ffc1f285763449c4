/- Shapes that may be, near one another, are told apart, and as the document says: for all raw shapes and poses. -/
import Derived.Test.YtccdgpijjgeedaaSNRight30
import Derived.Test.YtccdgpijjgeedaaSNRight19
import Derived.Test.YtccdgpijjgeedaaSNRight31
import Derived.Deep.MidRow
import Derived.Test.YtccdgpijjgeedaaRows
import Derived.ProofKit
import Derived.OpenShut
set_option linter.unusedVariables false
namespace Go.Proofs.Ytccdgpijjgeedaa
section
namespace narrowRight
open Go.ChangeShapes Go.WideShapes Go.ChangeAt Go.RowKit Go.Shelf
theorem own : ownKnob Try.prog.godebug = none := by kernel_rfl
theorem laidOut : laidOutB Try.prog = true := by kernel_rfl
set_option maxHeartbeats 8000000 in
set_option maxRecDepth 100000 in
theorem walk (k1 r1 x1 y1 z1 : Int) (o1 : Option Addr) (L1 : List Pt) (c1 : Nat) (k2 r2 x2 y2 z2 : Int) (o2 : Option Addr) (L2 : List Pt) (c2 : Nat) (p0 p1 p2 p3 p4 p5 p6 q0 q1 q2 q3 q4 q5 q6 nr wx wy wz : Int) (w0 : World) (hb : ∀ v ∈ ([k1, r1, x1, y1, z1, k2, r2, x2, y2, z2, p0, p1, p2, p3, p4, p5, p6, q0, q1, q2, q3, q4, q5, q6, nr, wx, wy, wz] : List Int), -9223372036854775808 <= v /\ v <= 9223372036854775807) (hL1 : Lies w0 (.slice o1 L1.length c1) L1) (hF1 : ∀ p ∈ L1, p.fits) (hL2 : Lies w0 (.slice o2 L2.length c2) L2) (hF2 : ∀ p ∈ L2, p.fits) :
  Calls Try.prog 4 #[.agg #[.int .i64 k1, .int .i64 r1, .int .i64 x1, .int .i64 y1, .int .i64 z1, .slice o1 L1.length c1, .int .i64 k2, .int .i64 r2, .int .i64 x2, .int .i64 y2, .int .i64 z2, .slice o2 L2.length c2, .int .i64 p0, .int .i64 p1, .int .i64 p2, .int .i64 p3, .int .i64 p4, .int .i64 p5, .int .i64 p6, .int .i64 q0, .int .i64 q1, .int .i64 q2, .int .i64 q3, .int .i64 q4, .int .i64 q5, .int .i64 q6, .int .i64 nr, .int .i64 wx, .int .i64 wy, .int .i64 wz]] w0 fun e w' => e = .returned (.bool true) /\ Below w0.heap.size w0 w' := by
 have HCO : Hid _ := fun w' (h : Below w0.heap.size w0 w') => cores_any k1 r1 x1 y1 z1 o1 L1 c1 k2 r2 x2 y2 z2 o2 L2 c2 p0 p1 p2 p3 p4 p5 p6 q0 q1 q2 q3 q4 q5 q6 nr wx wy wz w' hb (hL1.below h) hF1 (hL2.below h) hF2
 clear hb hL1 hF1 hL2 hF2
 obtain ⟨W1, hW1⟩ : ∃ W1, W1 = w0.alloc (.cells #[.int .i64 k1, .int .i64 r1, .int .i64 x1, .int .i64 y1, .int .i64 z1, .slice o1 L1.length c1, .int .i64 k2, .int .i64 r2, .int .i64 x2, .int .i64 y2, .int .i64 z2, .slice o2 L2.length c2, .int .i64 p0, .int .i64 p1, .int .i64 p2, .int .i64 p3, .int .i64 p4, .int .i64 p5, .int .i64 p6, .int .i64 q0, .int .i64 q1, .int .i64 q2, .int .i64 q3, .int .i64 q4, .int .i64 q5, .int .i64 q6, .int .i64 nr, .int .i64 wx, .int .i64 wy, .int .i64 wz] 44) := ⟨_, rfl⟩
 have CW : Hid (Cel W1 w0.heap.size [.int .i64 k1, .int .i64 r1, .int .i64 x1, .int .i64 y1, .int .i64 z1, .slice o1 L1.length c1, .int .i64 k2, .int .i64 r2, .int .i64 x2, .int .i64 y2, .int .i64 z2, .slice o2 L2.length c2, .int .i64 p0, .int .i64 p1, .int .i64 p2, .int .i64 p3, .int .i64 p4, .int .i64 p5, .int .i64 p6, .int .i64 q0, .int .i64 q1, .int .i64 q2, .int .i64 q3, .int .i64 q4, .int .i64 q5, .int .i64 q6, .int .i64 nr, .int .i64 wx, .int .i64 wy, .int .i64 wz]) := by show Cel _ _ _; rw [hW1]; exact Cel.new w0 [.int .i64 k1, .int .i64 r1, .int .i64 x1, .int .i64 y1, .int .i64 z1, .slice o1 L1.length c1, .int .i64 k2, .int .i64 r2, .int .i64 x2, .int .i64 y2, .int .i64 z2, .slice o2 L2.length c2, .int .i64 p0, .int .i64 p1, .int .i64 p2, .int .i64 p3, .int .i64 p4, .int .i64 p5, .int .i64 p6, .int .i64 q0, .int .i64 q1, .int .i64 q2, .int .i64 q3, .int .i64 q4, .int .i64 q5, .int .i64 q6, .int .i64 nr, .int .i64 wx, .int .i64 wy, .int .i64 wz] _
 have HB : Hid (Below w0.heap.size w0 W1) := by show Below _ _ _; rw [hW1]; exact n_after _ _
 obtain ⟨tb, htb⟩ : ∃ b, b = w0.heap.size := ⟨_, rfl⟩
 rw [<- htb] at CW
 go_enter Try.func4, Try.ntmps4
 go_upto_region 1 with fail
 rw [<- hW1, <- htb]
 clear hW1 htb
 have HRG : Hid (World.rangeAt W1 tb 0 [.int .i64 k1, .int .i64 r1, .int .i64 x1, .int .i64 y1, .int .i64 z1, .slice o1 L1.length c1, .int .i64 k2, .int .i64 r2, .int .i64 x2, .int .i64 y2, .int .i64 z2, .slice o2 L2.length c2, .int .i64 p0, .int .i64 p1, .int .i64 p2, .int .i64 p3, .int .i64 p4, .int .i64 p5, .int .i64 p6, .int .i64 q0, .int .i64 q1, .int .i64 q2, .int .i64 q3, .int .i64 q4, .int .i64 q5, .int .i64 q6, .int .i64 nr, .int .i64 wx, .int .i64 wy, .int .i64 wz]) := fun j v e => by rw [Nat.zero_add]; exact CW.out j v e
 clear CW
 go_wp2_with (refine wpList_load_mid rfl 44 _ rfl tb 0 rfl [.int .i64 k1, .int .i64 r1, .int .i64 x1, .int .i64 y1, .int .i64 z1, .slice o1 L1.length c1, .int .i64 k2, .int .i64 r2, .int .i64 x2, .int .i64 y2, .int .i64 z2, .slice o2 L2.length c2, .int .i64 p0, .int .i64 p1, .int .i64 p2, .int .i64 p3, .int .i64 p4, .int .i64 p5, .int .i64 p6, .int .i64 q0, .int .i64 q1, .int .i64 q2, .int .i64 q3, .int .i64 q4, .int .i64 q5, .int .i64 q6, .int .i64 nr, .int .i64 wx, .int .i64 wy, .int .i64 wz] _ HRG.out Try.underlying44 rfl (by kernel_rfl) ?_)
 refine Calls.mono (HCO.out _ HB.out) ?_
 rintro e V2 ⟨a, b, va1, va2, va3, vb1, vb2, vb3, rfl, HLI, hMA, hMB, hRA, hRB⟩
 obtain ⟨hl1, hl2, hl3, hl4, hl5, hl6, hb⟩ := HLI.out
 have HB : Hid _ := b_step HB.out hb
 have A1 : Hid _ := hl1
 have A2 : Hid _ := hl2
 have A3 : Hid _ := hl3
 have B1 : Hid _ := hl4
 have B2 : Hid _ := hl5
 have B3 : Hid _ := hl6
 obtain ⟨ao1, ac1, rfl, _⟩ := hl1.form
 obtain ⟨ao2, ac2, rfl, _⟩ := hl2.form
 obtain ⟨ao3, ac3, rfl, _⟩ := hl3.form
 obtain ⟨bo1, bc1, rfl, _⟩ := hl4.form
 obtain ⟨bo2, bc2, rfl, _⟩ := hl5.form
 obtain ⟨bo3, bc3, rfl, _⟩ := hl6.form
 clear HLI hl1 hl2 hl3 hl4 hl5 hl6 hb HCO HRG
 obtain ⟨X, hX⟩ : ∃ V, V = (V2.alloc (.cells #[.slice ao1 a.P.length ac1, .slice ao2 a.A.length ac2, .slice ao3 a.E.length ac3, .int .i64 a.r] 24)).alloc (.cells #[.slice bo1 b.P.length bc1, .slice bo2 b.A.length bc2, .slice bo3 b.E.length bc3, .int .i64 b.r] 24) := ⟨_, rfl⟩
 obtain ⟨ab, hab⟩ : ∃ b, b = V2.heap.size := ⟨_, rfl⟩
 obtain ⟨bb, hbb⟩ : ∃ b, b = V2.heap.size + 1 := ⟨_, rfl⟩
 have hbx : Below V2.heap.size V2 X := by rw [hX]; exact b_step (n_after _ _) (n_after _ _)
 have n2 := CelW.new (V2.alloc (.cells #[.slice ao1 a.P.length ac1, .slice ao2 a.A.length ac2, .slice ao3 a.E.length ac3, .int .i64 a.r] 24)) [.slice bo1 b.P.length bc1, .slice bo2 b.A.length bc2, .slice bo3 b.E.length bc3, .int .i64 b.r] 24
 rw [World.size_alloc] at n2
 have CA : Hid (CelW X ab [.slice ao1 a.P.length ac1, .slice ao2 a.A.length ac2, .slice ao3 a.E.length ac3, .int .i64 a.r]) := by show CelW _ _ _; rw [hX, hab]; exact (CelW.new _ _ _).step (n_after _ _)
 have CB : Hid (CelW X bb [.slice bo1 b.P.length bc1, .slice bo2 b.A.length bc2, .slice bo3 b.E.length bc3, .int .i64 b.r]) := by show CelW _ _ _; rw [hX, hbb]; exact n2
 clear n2
 go_upto_region 2 with fail
 rw [<- hX, <- hbb, <- hab]
 have hne : ab ≠ bb /\ w0.heap.size <= ab := by have := HB.out.size; omega
 have HB : Hid _ := b_step HB.out hbx
 have A1 : Hid _ := A1.out.below hbx
 have A2 : Hid _ := A2.out.below hbx
 have A3 : Hid _ := A3.out.below hbx
 have B1 : Hid _ := B1.out.below hbx
 have B2 : Hid _ := B2.out.below hbx
 have B3 : Hid _ := B3.out.below hbx
 clear hX hbb hab hbx
 have HA1 : Hid _ := napart_any a.P a.A a.E b.P b.A b.E a.r b.r _ _ _ _ _ _ X A1.out A2.out A3.out B1.out B2.out B3.out
 have HNT : Hid _ := fun (w' : World) (h : Below X.heap.size X w') => ntells_any a.P a.A a.E b.P b.A b.E a.r b.r ⟨1, 0, 0⟩ _ _ _ _ _ _ w' (A1.out.below h) (A2.out.below h) (A3.out.below h) (B1.out.below h) (B2.out.below h) (B3.out.below h) (by have := (mayC_parts hMA).1; omega) (by have := (mayC_parts hMA).2.1; omega) (by have := (mayC_parts hMB).1; omega) (by have := (mayC_parts hMB).2.1; omega)
 have e1 : (mayC ⟨a.P, a.A, a.E, a.r⟩ && mayC ⟨b.P, b.A, b.E, b.r⟩) = true := by rw [show mayC ⟨a.P, a.A, a.E, a.r⟩ = true from hMA, show mayC ⟨b.P, b.A, b.E, b.r⟩ = true from hMB]; rfl
 obtain ⟨tx, ty, tz, tg, e2⟩ := apartV_form ⟨a.P, a.A, a.E, a.r⟩ ⟨b.P, b.A, b.E, b.r⟩
 rw [e2, e1] at HA1
 clear e1 e2 A1 A2 A3 B1 B2 B3
 unfold coreA at HA1 HNT
 unfold Pt.v at HNT
 dsimp only at HNT
 have x0 := (CA.out 0 _ rfl).1
 have y0 := (CB.out 0 _ rfl).1
 have x1 := (CA.out 1 _ rfl).1
 have y1 := (CB.out 1 _ rfl).1
 have x2 := (CA.out 2 _ rfl).1
 have y2 := (CB.out 2 _ rfl).1
 have x3 := (CA.out 3 _ rfl).1
 have y3 := (CB.out 3 _ rfl).1
 go_wp2_with (fail)
 refine Calls.mono HA1.out ?_
 rintro e V4 ⟨rfl, hb⟩
 have HX4 : Hid _ := hb
 have CA : Hid _ := CelW.step CA.out hb
 have CB : Hid _ := CelW.step CB.out hb
 have HB : Hid _ := b_step HB.out hb
 clear hb HA1 x0 x1 x2 x3 y0 y1 y2 y3
 obtain ⟨V5, hV5⟩ : ∃ V, V = V4.alloc (.cells #[.int .i64 tx, .int .i64 ty, .int .i64 tz, .int .i64 tg] 29) := ⟨_, rfl⟩
 have hb3 : Below V4.heap.size V4 V5 := by rw [hV5]; exact n_after _ _
 go_upto_region 3 with fail
 rw [<- hV5]
 have HX5 : Hid _ := b_step HX4.out hb3
 have CA : Hid _ := CelW.step CA.out hb3
 have CB : Hid _ := CelW.step CB.out hb3
 have HB : Hid _ := b_step HB.out hb3
 clear hV5 hb3 HX4
 have x0 := (CA.out 0 _ rfl).1
 have y0 := (CB.out 0 _ rfl).1
 have x1 := (CA.out 1 _ rfl).1
 have y1 := (CB.out 1 _ rfl).1
 have x2 := (CA.out 2 _ rfl).1
 have y2 := (CB.out 2 _ rfl).1
 have x3 := (CA.out 3 _ rfl).1
 have y3 := (CB.out 3 _ rfl).1
 go_wp2_with (fail)
 refine Calls.mono (HNT.out _ HX5.out) ?_
 rintro e V6 ⟨rfl, hb⟩
 have HB : Hid _ := b_step HB.out hb
 clear hb
 go_wp2_with (fail)
 go_ret
 exact ⟨rfl, HB.out⟩
set_option maxRecDepth 100000 in
theorem lifted (os : Os) (started : os.Started) (H : Type) (enc : TypeId × Value -> H) :
  ReturnsInHanded {} Try.checked os 4 .any (Rows.narrowRightSpec.pre6 enc Try.prog Try.f4 Rows.narrowRightRow.domain false) (Rows.narrowRightSpec.post enc Try.prog Try.f4 false true false false) := by
 refine returnsInHanded_of_change (C := Try.checked) own started (by kernel_rfl) Try.func4
  (ChangeSpec.witness6 (enc := enc) (C := Try.checked) false ⟨#[], #[.agg #[.int .i64 0, .int .i64 0, .int .i64 0, .int .i64 0, .int .i64 0, .slice none 0 0, .int .i64 0, .int .i64 0, .int .i64 0, .int .i64 0, .int .i64 0, .slice none 0 0, .int .i64 0, .int .i64 0, .int .i64 0, .int .i64 0, .int .i64 0, .int .i64 0, .int .i64 0, .int .i64 0, .int .i64 0, .int .i64 0, .int .i64 0, .int .i64 0, .int .i64 0, .int .i64 0, .int .i64 0, .int .i64 0, .int .i64 0, .int .i64 0]], []⟩ 8 (by kernel_rfl) (by kernel_rfl) (by kernel_rfl) (by kernel_rfl)) ?_
 intro W base args ds gs before hval0 hW hcnd _
 have hval : ∀ (j : Nat) t v, Try.f4.params[j]? = some t -> args[j]? = some v -> Value.okWide Try.prog W .any base t v := hval0
 have hW' := hW
 obtain ⟨p, q, hA0, hV, rfl, hfz, hnd⟩ := hW
 have hA : DataW.TrodAll enc Try.prog W 0 (fun _ => true) true Try.f4.params.toList args.toList ds p := hA0
 rw [Try.params4] at hA hval
 obtain ⟨v0, vs0, d0, ds0, p0, q0, hargs, rfl, rfl, h0, r0⟩ := trodAll_cons hA
 obtain ⟨rfl, rfl, rfl⟩ := trodAll_nil r0
 obtain rfl : args = #[v0] := by cases args; simp_all
 obtain ⟨rfl, rfl⟩ := trodVars_none hV
 have k0 := h0
 have lt0 : ∀ x ∈ p0, x.block < W.heap.size := by obtain ⟨m, hm⟩ := k0; exact DataW.trod_lt m _ _ _ hm
 obtain ⟨kk1, rr1, x1, y1, z1, o1, L1, c1, k2, r2, x2, y2, z2, o2, L2, c2, pp0, p1, p2, p3, p4, p5, p6, q0, q1, q2, q3, q4, q5, q6, nr, wx, wy, wz, rfl, hL1, hF1, hL2, hF2, hbs⟩ := open_two (hval 0 44 v0 rfl rfl) h0
 clear hA0 hval0
 refine (walk kk1 rr1 x1 y1 z1 o1 L1 c1 k2 r2 x2 y2 z2 o2 L2 c2 pp0 p1 p2 p3 p4 p5 p6 q0 q1 q2 q3 q4 q5 q6 nr wx wy wz W hbs hL1 hF1 hL2 hF2).mono fun e W' ⟨he, bel⟩ => ?_
 subst he
 exact ⟨_, rfl, _, _, _, [], _, [], hW', trodAll_mk1 (shut_bool Try.underlying4 _), (trodAll_cons_mk (Below.trod laidOut (by kernel_rfl) (of_decide_eq_true (by kernel_rfl)) k0 bel lt0) trodAll_mk0), rfl, bel.frame _, fun h => by cases h⟩
theorem over : Rows.narrowRightRow.holds Try.pinned (OpenSpec.ofChange Rows.narrowRightSpec) :=
 OpenClaim.holds_of_wide 4 Try.f4 rfl rfl rfl rfl rfl rfl rfl ⟨rfl, rfl, rfl, rfl, rfl⟩ rfl rfl rfl rfl rfl (by kernel_rfl) Try.func4 (by kernel_rfl)
  (of_decide_eq_true (by kernel_rfl)) (by unfold Func.isWrapper; first | (rw [if_pos (by decide +kernel)]; kernel_rfl) | (rw [if_neg (by decide +kernel)]; exact ⟨rfl, rfl⟩))
  (fun os started H enc _ => lifted os started H enc)
end narrowRight
theorem narrowRight_holds : Rows.NarrowRightSaid := narrowRight.over
#print axioms narrowRight_holds
end
end Go.Proofs.Ytccdgpijjgeedaa
