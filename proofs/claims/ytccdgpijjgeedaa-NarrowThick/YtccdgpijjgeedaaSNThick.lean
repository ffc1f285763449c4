/- A greater radius makes the gap less by just that, and the direction stays: for all raw shapes and poses, and all numbers. -/
import Derived.Test.YtccdgpijjgeedaaSNThick26
import Derived.Test.YtccdgpijjgeedaaSNThick27
import Derived.Test.YtccdgpijjgeedaaSNThick24
import Derived.Deep.MidRow
import Derived.Test.YtccdgpijjgeedaaRows
import Derived.ProofKit
import Derived.OpenShut
namespace Go.Proofs.Ytccdgpijjgeedaa
namespace narrowThick
open Go.ChangeShapes Go.WideShapes Go.ChangeAt Go.RowKit Go.Shelf
set_option linter.unusedVariables false

theorem own : ownKnob Try.prog.godebug = none := by kernel_rfl
theorem laidOut : laidOutB Try.prog = true := by kernel_rfl
theorem best_long (g : Pt → Int) (Q : Pt → Prop) : ∀ (L : List Pt) (s : Bs), (∀ n ∈ L, Q n) → (s = none ∨ ∃ m, s = some (m, g m) ∧ Q m) → bestL g s L = none ∨ ∃ n, bestL g s L = some (n, g n) ∧ Q n
  | [], s, _, h => h
  | p :: r, s, hL, h => by
    refine best_long g Q r (bestS g s p) (fun n hn => hL n (List.mem_cons_of_mem _ hn)) ?_
    rcases h with rfl | ⟨m, rfl, hm⟩
    · exact Or.inr ⟨p, rfl, hL p List.mem_cons_self⟩
    · unfold bestS
      dsimp only
      split
      · exact Or.inr ⟨p, rfl, hL p List.mem_cons_self⟩
      · exact Or.inr ⟨m, rfl, hm⟩
theorem told_rng {a b : Cr} (ha : mayC a = true) (hb : mayC b = true) : -1125899906842624 ≤ (told a b).2 ∧ (told a b).2 ≤ 1125899906842624 := by
  obtain ⟨f1, f2, f3, f4⟩ := may_facts ha
  obtain ⟨g1, g2, g3, g4⟩ := may_facts hb
  unfold told
  rcases best_long (gapZ a.P b.P a.r b.r) (fun n => n.inB 1048576 = true ∧ 524288 ≤ dn n) (both (candL a b)) none (fun n hn => both_long _ n hn) (Or.inl rfl) with h | ⟨n, h, hn, hd⟩
  · rw [h]; dsimp only; omega
  · rw [h]
    dsimp only
    have k1 := loK_in (C := 52776558133248) hn g2 (by decide) (b.P.length - 1) (by omega)
    have k2 := hiK_in (C := 52776558133248) hn f2 (by decide) (a.P.length - 1) (by omega)
    have hu : dn n ≤ up n := by unfold up; split <;> omega
    have hdr := dn_rng (inB_mono (n := 16777216) hn (by decide))
    unfold gapZ gap0 room loP hiP
    generalize loK n b.P (b.P.length - 1) = lo at *
    generalize hiK n a.P (a.P.length - 1) = hi at *
    generalize up n = u at *
    generalize dn n = d at *
    by_cases hge : 0 ≤ lo - hi
    · rw [if_pos hge]
      have := tdiv_rng (a := lo - hi) (b := u) (C := 105553116266496) ⟨hge, by omega⟩ (by omega)
      omega
    · rw [if_neg hge]
      have := tdiv_rng (a := d - 1 - (lo - hi)) (b := d) (C := 211106232532992) ⟨by omega, by omega⟩ (by omega)
      omega

set_option maxHeartbeats 8000000 in
set_option maxRecDepth 100000 in
theorem walk (k1 r1 x1 y1 z1 : Int) (o1 : Option Addr) (L1 : List Pt) (c1 : Nat) (k2 r2 x2 y2 z2 : Int) (o2 : Option Addr) (L2 : List Pt) (c2 : Nat) (p0 p1 p2 p3 p4 p5 p6 q0 q1 q2 q3 q4 q5 q6 nr wx wy wz : Int) (mo : Int) (w0 : World) (hb : ∀ v ∈ ([k1, r1, x1, y1, z1, k2, r2, x2, y2, z2, p0, p1, p2, p3, p4, p5, p6, q0, q1, q2, q3, q4, q5, q6, nr, wx, wy, wz] : List Int), -9223372036854775808 ≤ v ∧ v ≤ 9223372036854775807) (hL1 : Lies w0 (.slice o1 L1.length c1) L1) (hF1 : ∀ p ∈ L1, p.fits) (hL2 : Lies w0 (.slice o2 L2.length c2) L2) (hF2 : ∀ p ∈ L2, p.fits) (hmo : -9223372036854775808 ≤ mo ∧ mo ≤ 9223372036854775807) :
    Calls Try.prog 7 #[.agg #[.int .i64 k1, .int .i64 r1, .int .i64 x1, .int .i64 y1, .int .i64 z1, .slice o1 L1.length c1, .int .i64 k2, .int .i64 r2, .int .i64 x2, .int .i64 y2, .int .i64 z2, .slice o2 L2.length c2, .int .i64 p0, .int .i64 p1, .int .i64 p2, .int .i64 p3, .int .i64 p4, .int .i64 p5, .int .i64 p6, .int .i64 q0, .int .i64 q1, .int .i64 q2, .int .i64 q3, .int .i64 q4, .int .i64 q5, .int .i64 q6, .int .i64 nr, .int .i64 wx, .int .i64 wy, .int .i64 wz], .int .i64 mo] w0 fun e w' => e = .returned (.bool true) ∧ Below w0.heap.size w0 w' := by
  have HCO : Hid _ := fun w' (h : Below w0.heap.size w0 w') => cores_any k1 r1 x1 y1 z1 o1 L1 c1 k2 r2 x2 y2 z2 o2 L2 c2 p0 p1 p2 p3 p4 p5 p6 q0 q1 q2 q3 q4 q5 q6 nr wx wy wz w' hb (hL1.below h) hF1 (hL2.below h) hF2
  have AW : Hid _ := fun W => awake9_any W
  clear hb hL1 hF1 hL2 hF2
  have HPK : Hid _ := fun w' => npick_below mo 32768 w' hmo (by decide) (by decide)
  have l_k := pickY_lo mo (n := 32768) (by decide)
  have u_k := pickY_hi mo (n := 32768) (by decide)
  generalize pickY mo 32768 = k at *
  clear hmo
  obtain ⟨W1, hW1⟩ : ∃ W1, W1 = w0.alloc (.cells #[.int .i64 k1, .int .i64 r1, .int .i64 x1, .int .i64 y1, .int .i64 z1, .slice o1 L1.length c1, .int .i64 k2, .int .i64 r2, .int .i64 x2, .int .i64 y2, .int .i64 z2, .slice o2 L2.length c2, .int .i64 p0, .int .i64 p1, .int .i64 p2, .int .i64 p3, .int .i64 p4, .int .i64 p5, .int .i64 p6, .int .i64 q0, .int .i64 q1, .int .i64 q2, .int .i64 q3, .int .i64 q4, .int .i64 q5, .int .i64 q6, .int .i64 nr, .int .i64 wx, .int .i64 wy, .int .i64 wz] 44) := ⟨_, rfl⟩
  have CW : Hid (Cel W1 w0.heap.size [.int .i64 k1, .int .i64 r1, .int .i64 x1, .int .i64 y1, .int .i64 z1, .slice o1 L1.length c1, .int .i64 k2, .int .i64 r2, .int .i64 x2, .int .i64 y2, .int .i64 z2, .slice o2 L2.length c2, .int .i64 p0, .int .i64 p1, .int .i64 p2, .int .i64 p3, .int .i64 p4, .int .i64 p5, .int .i64 p6, .int .i64 q0, .int .i64 q1, .int .i64 q2, .int .i64 q3, .int .i64 q4, .int .i64 q5, .int .i64 q6, .int .i64 nr, .int .i64 wx, .int .i64 wy, .int .i64 wz]) := by show Cel _ _ _; rw [hW1]; exact Cel.new w0 [.int .i64 k1, .int .i64 r1, .int .i64 x1, .int .i64 y1, .int .i64 z1, .slice o1 L1.length c1, .int .i64 k2, .int .i64 r2, .int .i64 x2, .int .i64 y2, .int .i64 z2, .slice o2 L2.length c2, .int .i64 p0, .int .i64 p1, .int .i64 p2, .int .i64 p3, .int .i64 p4, .int .i64 p5, .int .i64 p6, .int .i64 q0, .int .i64 q1, .int .i64 q2, .int .i64 q3, .int .i64 q4, .int .i64 q5, .int .i64 q6, .int .i64 nr, .int .i64 wx, .int .i64 wy, .int .i64 wz] _
  have HB : Hid (Below w0.heap.size w0 W1) := by show Below _ _ _; rw [hW1]; exact n_after _ _
  obtain ⟨tb, htb⟩ : ∃ b, b = w0.heap.size := ⟨_, rfl⟩
  rw [← htb] at CW
  go_enter Try.func7, Try.ntmps7
  go_upto_region 1 with fail
  rw [← hW1, ← htb]
  clear hW1 htb
  go_wp2_with (fail)
  refine Calls.mono (AW.out _) ?_
  rintro e V1 ⟨rfl, hb⟩
  have CW : Hid _ := Cel.step CW.out hb
  have HB : Hid _ := b_step HB.out hb
  clear hb AW
  have HRG : Hid (World.rangeAt V1 tb 0 [.int .i64 k1, .int .i64 r1, .int .i64 x1, .int .i64 y1, .int .i64 z1, .slice o1 L1.length c1, .int .i64 k2, .int .i64 r2, .int .i64 x2, .int .i64 y2, .int .i64 z2, .slice o2 L2.length c2, .int .i64 p0, .int .i64 p1, .int .i64 p2, .int .i64 p3, .int .i64 p4, .int .i64 p5, .int .i64 p6, .int .i64 q0, .int .i64 q1, .int .i64 q2, .int .i64 q3, .int .i64 q4, .int .i64 q5, .int .i64 q6, .int .i64 nr, .int .i64 wx, .int .i64 wy, .int .i64 wz]) := fun j v e => by rw [Nat.zero_add]; exact CW.out j v e
  clear CW
  go_wp2_with (refine wpList_load_mid rfl 44 _ rfl tb 0 rfl [.int .i64 k1, .int .i64 r1, .int .i64 x1, .int .i64 y1, .int .i64 z1, .slice o1 L1.length c1, .int .i64 k2, .int .i64 r2, .int .i64 x2, .int .i64 y2, .int .i64 z2, .slice o2 L2.length c2, .int .i64 p0, .int .i64 p1, .int .i64 p2, .int .i64 p3, .int .i64 p4, .int .i64 p5, .int .i64 p6, .int .i64 q0, .int .i64 q1, .int .i64 q2, .int .i64 q3, .int .i64 q4, .int .i64 q5, .int .i64 q6, .int .i64 nr, .int .i64 wx, .int .i64 wy, .int .i64 wz] _ HRG.out Try.underlying44 rfl (by kernel_rfl) ?_)
  refine Calls.mono (HCO.out _ HB.out) ?_
  rintro e V2 ⟨a, b, va1, va2, va3, vb1, vb2, vb3, rfl, HLI, hMA, hMB, hRA, hRB⟩
  obtain ⟨hl1, hl2, hl3, hl4, hl5, hl6, hb⟩ := HLI.out
  have HB : Hid _ := b_step HB.out hb
  have A1 : Hid _ := hl1
  have A2 : Hid _ := hl2
  have A3 : Hid _ := hl3
  have B1 : Hid _ := hl4
  have B2 : Hid _ := hl5
  have B3 : Hid _ := hl6
  obtain ⟨ao1, ac1, rfl, _⟩ := hl1.form
  obtain ⟨ao2, ac2, rfl, _⟩ := hl2.form
  obtain ⟨ao3, ac3, rfl, _⟩ := hl3.form
  obtain ⟨bo1, bc1, rfl, _⟩ := hl4.form
  obtain ⟨bo2, bc2, rfl, _⟩ := hl5.form
  obtain ⟨bo3, bc3, rfl, _⟩ := hl6.form
  clear HLI hl1 hl2 hl3 hl4 hl5 hl6 hb HCO HRG
  obtain ⟨X, hX⟩ : ∃ V, V = (V2.alloc (.cells #[.slice ao1 a.P.length ac1, .slice ao2 a.A.length ac2, .slice ao3 a.E.length ac3, .int .i64 a.r] 24)).alloc (.cells #[.slice bo1 b.P.length bc1, .slice bo2 b.A.length bc2, .slice bo3 b.E.length bc3, .int .i64 b.r] 24) := ⟨_, rfl⟩
  obtain ⟨ab, hab⟩ : ∃ b, b = V2.heap.size := ⟨_, rfl⟩
  obtain ⟨bb, hbb⟩ : ∃ b, b = V2.heap.size + 1 := ⟨_, rfl⟩
  have FAR : Hid _ := And.intro (A1.out.far (Nat.le_of_eq hab.symm)) (And.intro (A2.out.far (Nat.le_of_eq hab.symm)) (And.intro (A3.out.far (Nat.le_of_eq hab.symm)) (And.intro (B1.out.far (Nat.le_of_eq hab.symm)) (And.intro (B2.out.far (Nat.le_of_eq hab.symm)) (B3.out.far (Nat.le_of_eq hab.symm))))))
  have hbx : Below V2.heap.size V2 X := by rw [hX]; exact b_step (n_after _ _) (n_after _ _)
  have n2 := CelW.new (V2.alloc (.cells #[.slice ao1 a.P.length ac1, .slice ao2 a.A.length ac2, .slice ao3 a.E.length ac3, .int .i64 a.r] 24)) [.slice bo1 b.P.length bc1, .slice bo2 b.A.length bc2, .slice bo3 b.E.length bc3, .int .i64 b.r] 24
  rw [World.size_alloc] at n2
  have CA : Hid (CelW X ab [.slice ao1 a.P.length ac1, .slice ao2 a.A.length ac2, .slice ao3 a.E.length ac3, .int .i64 a.r]) := by show CelW _ _ _; rw [hX, hab]; exact (CelW.new _ _ _).step (n_after _ _)
  have CB : Hid (CelW X bb [.slice bo1 b.P.length bc1, .slice bo2 b.A.length bc2, .slice bo3 b.E.length bc3, .int .i64 b.r]) := by show CelW _ _ _; rw [hX, hbb]; exact n2
  clear n2
  go_upto_region 3 with fail
  rw [← hX, ← hbb, ← hab]
  have hne : ab ≠ bb ∧ w0.heap.size ≤ ab := by have := HB.out.size; omega
  have HB : Hid _ := b_step HB.out hbx
  have A1 : Hid _ := A1.out.below hbx
  have A2 : Hid _ := A2.out.below hbx
  have A3 : Hid _ := A3.out.below hbx
  have B1 : Hid _ := B1.out.below hbx
  have B2 : Hid _ := B2.out.below hbx
  have B3 : Hid _ := B3.out.below hbx
  clear hX hbb hab hbx
  have HA1 : Hid _ := fun (w' : World) (h : Below X.heap.size X w') => napart_any a.P a.A a.E b.P b.A b.E a.r b.r _ _ _ _ _ _ w' (A1.out.below h) (A2.out.below h) (A3.out.below h) (B1.out.below h) (B2.out.below h) (B3.out.below h)
  have HA2 : Hid _ := fun (w' : World) (l1 : Lies w' (.slice ao1 a.P.length ac1) a.P) (l2 : Lies w' (.slice ao2 a.A.length ac2) a.A) (l3 : Lies w' (.slice ao3 a.E.length ac3) a.E) (l4 : Lies w' (.slice bo1 b.P.length bc1) b.P) (l5 : Lies w' (.slice bo2 b.A.length bc2) b.A) (l6 : Lies w' (.slice bo3 b.E.length bc3) b.E) => napart_any a.P a.A a.E b.P b.A b.E (a.r + k) b.r _ _ _ _ _ _ w' l1 l2 l3 l4 l5 l6
  have hMK : mayC ⟨a.P, a.A, a.E, a.r + k⟩ = true := by
    have h := hMA
    unfold mayC at h ⊢
    simp only [Bool.and_eq_true, decide_eq_true_eq] at h ⊢
    exact ⟨h.1, by omega⟩
  have HV1 : Hid (apartV ⟨a.P, a.A, a.E, a.r⟩ ⟨b.P, b.A, b.E, b.r⟩ = .agg #[.int .i64 (told a b).1.x, .int .i64 (told a b).1.y, .int .i64 (told a b).1.z, .int .i64 (told a b).2]) := by show _ = _; unfold apartV; rw [show mayC ⟨a.P, a.A, a.E, a.r⟩ = true from hMA, show mayC ⟨b.P, b.A, b.E, b.r⟩ = true from hMB]; rfl
  have HV2 : Hid (apartV ⟨a.P, a.A, a.E, a.r + k⟩ ⟨b.P, b.A, b.E, b.r⟩ = .agg #[.int .i64 (told a b).1.x, .int .i64 (told a b).1.y, .int .i64 (told a b).1.z, .int .i64 ((told a b).2 - k)]) := by show _ = _; unfold apartV; rw [hMK, show mayC ⟨b.P, b.A, b.E, b.r⟩ = true from hMB, told_thick]; rfl
  have htr := told_rng hMA hMB
  have e1 : (mayC ⟨a.P, a.A, a.E, a.r⟩ && mayC ⟨b.P, b.A, b.E, b.r⟩) = true := by rw [show mayC ⟨a.P, a.A, a.E, a.r⟩ = true from hMA, show mayC ⟨b.P, b.A, b.E, b.r⟩ = true from hMB]; rfl
  have e2 : (mayC ⟨a.P, a.A, a.E, a.r + k⟩ && mayC ⟨b.P, b.A, b.E, b.r⟩) = true := by rw [hMK, show mayC ⟨b.P, b.A, b.E, b.r⟩ = true from hMB]; rfl
  rw [HV1.out, e1] at HA1
  rw [HV2.out, e2] at HA2
  clear HV1 HV2 e1 e2 hMK
  obtain ⟨⟨⟨tx, ty, tz⟩, tg⟩, ht⟩ : ∃ x, told a b = x := ⟨_, rfl⟩
  rw [ht] at HA1 HA2 htr
  dsimp only at HA1 HA2 htr
  obtain ⟨th, hth⟩ : ∃ x, tg - k = x := ⟨_, rfl⟩
  have w_th : IntKind.i64.wrap (tg - k) = th := by rw [hth, IntKind.wrap_i64]; omega
  rw [hth] at HA2
  obtain ⟨rk, hrk⟩ : ∃ x, a.r + k = x := ⟨_, rfl⟩
  have w_rk : IntKind.i64.wrap (a.r + k) = rk := by rw [hrk, IntKind.wrap_i64]; omega
  rw [hrk] at HA2
  have HTH : Hid _ := hth
  have hmx : hne.1 = hne.1 := rfl
  clear ht hth hrk hmx htr
  unfold coreA at HA1 HA2
  go_wp2_with (fail)
  refine Calls.mono (HPK.out _) ?_
  rintro e V3 ⟨rfl, hb⟩
  have HX3 : Hid _ := hb
  have CA : Hid _ := CelW.step CA.out hb
  have CB : Hid _ := CelW.step CB.out hb
  have HB : Hid _ := b_step HB.out hb
  clear hb HPK
  have x0 := (CA.out 0 _ rfl).1
  have y0 := (CB.out 0 _ rfl).1
  have x1 := (CA.out 1 _ rfl).1
  have y1 := (CB.out 1 _ rfl).1
  have x2 := (CA.out 2 _ rfl).1
  have y2 := (CB.out 2 _ rfl).1
  have x3 := (CA.out 3 _ rfl).1
  have y3 := (CB.out 3 _ rfl).1
  go_wp2_with (fail)
  refine Calls.mono (HA1.out _ HX3.out) ?_
  rintro e V4 ⟨rfl, hb⟩
  have HX4 : Hid _ := b_step HX3.out hb
  have CA : Hid _ := CelW.step CA.out hb
  have CB : Hid _ := CelW.step CB.out hb
  have HB : Hid _ := b_step HB.out hb
  clear hb HA1 HX3 x0 x1 x2 x3 y0 y1 y2 y3
  obtain ⟨V5, hV5⟩ : ∃ V, V = V4.alloc (.cells #[.int .i64 tx, .int .i64 ty, .int .i64 tz, .int .i64 tg] 29) := ⟨_, rfl⟩
  obtain ⟨xb, hxb⟩ : ∃ b, b = V4.heap.size := ⟨_, rfl⟩
  have hb3 : Below V4.heap.size V4 V5 := by rw [hV5]; exact n_after _ _
  have CX : Hid (CelW V5 xb [.int .i64 tx, .int .i64 ty, .int .i64 tz, .int .i64 tg]) := by show CelW _ _ _; rw [hV5, hxb]; exact CelW.new _ _ _
  have hxa : xb ≠ ab := by have := CelW.lt CA.out; omega
  go_upto_region 5 with fail
  rw [← hV5, ← hxb]
  have HX5 : Hid _ := b_step HX4.out hb3
  have CA : Hid _ := CelW.step CA.out hb3
  have CB : Hid _ := CelW.step CB.out hb3
  have HB : Hid _ := b_step HB.out hb3
  clear hV5 hxb hb3 HX4
  obtain ⟨x3, xf3⟩ := CA.out 3 _ rfl
  go_upto_region 6 with fail
  obtain ⟨V6, hV6⟩ : ∃ V, V = V5.setCell ⟨ab, 3, none⟩ (.int .i64 rk) := ⟨_, rfl⟩
  have CA : Hid (CelW V6 ab [.slice ao1 a.P.length ac1, .slice ao2 a.A.length ac2, .slice ao3 a.E.length ac3, .int .i64 rk]) := by show CelW _ _ _; rw [hV6]; exact CelW.set CA.out 3 (.int .i64 rk) (by simp)
  have CB : Hid (CelW V6 bb [.slice bo1 b.P.length bc1, .slice bo2 b.A.length bc2, .slice bo3 b.E.length bc3, .int .i64 b.r]) := by show CelW _ _ _; rw [hV6]; exact CelW.other CB.out (Ne.symm hne.1) _ _
  have CX : Hid (CelW V6 xb [.int .i64 tx, .int .i64 ty, .int .i64 tz, .int .i64 tg]) := by show CelW _ _ _; rw [hV6]; exact CelW.other CX.out hxa _ _
  have HB : Hid (Below w0.heap.size w0 V6) := by show Below _ _ _; rw [hV6]; exact HB.out.setCell hne.2 _
  have M1 : Hid _ := (A1.out.below HX5.out).grown (setg V5 ab 3 (.int .i64 rk)) FAR.out.1
  have M2 : Hid _ := (A2.out.below HX5.out).grown (setg V5 ab 3 (.int .i64 rk)) FAR.out.2.1
  have M3 : Hid _ := (A3.out.below HX5.out).grown (setg V5 ab 3 (.int .i64 rk)) FAR.out.2.2.1
  have M4 : Hid _ := (B1.out.below HX5.out).grown (setg V5 ab 3 (.int .i64 rk)) FAR.out.2.2.2.1
  have M5 : Hid _ := (B2.out.below HX5.out).grown (setg V5 ab 3 (.int .i64 rk)) FAR.out.2.2.2.2.1
  have M6 : Hid _ := (B3.out.below HX5.out).grown (setg V5 ab 3 (.int .i64 rk)) FAR.out.2.2.2.2.2
  rw [← hV6] at M1 M2 M3 M4 M5 M6 ⊢
  clear hV6 x3 xf3 A1 A2 A3 B1 B2 B3 HX5
  have x0 := (CA.out 0 _ rfl).1
  have y0 := (CB.out 0 _ rfl).1
  have x1 := (CA.out 1 _ rfl).1
  have y1 := (CB.out 1 _ rfl).1
  have x2 := (CA.out 2 _ rfl).1
  have y2 := (CB.out 2 _ rfl).1
  have x3 := (CA.out 3 _ rfl).1
  have y3 := (CB.out 3 _ rfl).1
  go_wp2_with (fail)
  refine Calls.mono (HA2.out _ M1.out M2.out M3.out M4.out M5.out M6.out) ?_
  rintro e V7 ⟨rfl, hb⟩
  have CX : Hid _ := CelW.step CX.out hb
  have HB : Hid _ := b_step HB.out hb
  clear hb HA2 x0 x1 x2 x3 y0 y1 y2 y3 M1 M2 M3 M4 M5 M6 CA CB
  obtain ⟨V8, hV8⟩ : ∃ V, V = V7.alloc (.cells #[.int .i64 tx, .int .i64 ty, .int .i64 tz, .int .i64 th] 29) := ⟨_, rfl⟩
  obtain ⟨yb, hyb⟩ : ∃ b, b = V7.heap.size := ⟨_, rfl⟩
  have hb3 : Below V7.heap.size V7 V8 := by rw [hV8]; exact n_after _ _
  have CY : Hid (Cel V8 yb [.int .i64 tx, .int .i64 ty, .int .i64 tz, .int .i64 th]) := by show Cel _ _ _; rw [hV8, hyb]; exact Cel.new _ _ _
  go_upto_region 7 with fail
  rw [← hV8, ← hyb]
  have CX : Hid _ := CelW.step CX.out hb3
  have HB : Hid _ := b_step HB.out hb3
  clear hV8 hyb hb3
  have x0 := (CX.out 0 _ rfl).1
  have y0 := CY.out 0 _ rfl
  have x1 := (CX.out 1 _ rfl).1
  have y1 := CY.out 1 _ rfl
  have x2 := (CX.out 2 _ rfl).1
  have y2 := CY.out 2 _ rfl
  have x3 := (CX.out 3 _ rfl).1
  have y3 := CY.out 3 _ rfl
  go_wp2_with (fail)
  go_ret
  exact ⟨rfl, HB.out⟩

/-! ### The row's step, after the guide's template -/
set_option maxRecDepth 100000 in
theorem lifted (os : Os) (started : os.Started) (H : Type) (enc : TypeId × Value → H) :
    ReturnsInHanded {} Try.checked os 7 .any (Rows.narrowThickSpec.pre6 enc Try.prog Try.f7 Rows.narrowThickRow.domain false) (Rows.narrowThickSpec.post enc Try.prog Try.f7 false true false false) := by
  refine returnsInHanded_of_change (C := Try.checked) own started (by kernel_rfl) Try.func7
    (ChangeSpec.witness6 (enc := enc) (C := Try.checked) false ⟨#[], #[.agg #[.int .i64 0, .int .i64 0, .int .i64 0, .int .i64 0, .int .i64 0, .slice none 0 0, .int .i64 0, .int .i64 0, .int .i64 0, .int .i64 0, .int .i64 0, .slice none 0 0, .int .i64 0, .int .i64 0, .int .i64 0, .int .i64 0, .int .i64 0, .int .i64 0, .int .i64 0, .int .i64 0, .int .i64 0, .int .i64 0, .int .i64 0, .int .i64 0, .int .i64 0, .int .i64 0, .int .i64 0, .int .i64 0, .int .i64 0, .int .i64 0], .int .i64 0], []⟩ 8 (by kernel_rfl) (by kernel_rfl) (by kernel_rfl) (by kernel_rfl)) ?_
  intro W base args ds gs before hval0 hW hcnd _
  have hval : ∀ (j : Nat) t v, Try.f7.params[j]? = some t → args[j]? = some v → Value.okWide Try.prog W .any base t v := hval0
  have hW' := hW
  obtain ⟨p, q, hA0, hV, rfl, hfz, hnd⟩ := hW
  have hA : DataW.TrodAll enc Try.prog W 0 (fun _ => true) true Try.f7.params.toList args.toList ds p := hA0
  rw [Try.params7] at hA hval
  obtain ⟨v0, vs0, d0, ds0, p0, q0, hargs, rfl, rfl, h0, r0⟩ := trodAll_cons hA
  obtain ⟨v1, vs1, d1, ds1, p1, q1, rfl, rfl, rfl, h1, r1⟩ := trodAll_cons r0
  obtain ⟨rfl, rfl, rfl⟩ := trodAll_nil r1
  obtain rfl : args = #[v0, v1] := by cases args; simp_all
  obtain ⟨rfl, rfl⟩ := trodVars_none hV
  have k0 := h0
  have lt0 : ∀ x ∈ p0, x.block < W.heap.size := by obtain ⟨m, hm⟩ := k0; exact DataW.trod_lt m _ _ _ hm
  obtain ⟨kk1, rr1, x1, y1, z1, o1, L1, c1, k2, r2, x2, y2, z2, o2, L2, c2, pp0, p1, p2, p3, p4, p5, p6, q0, q1, q2, q3, q4, q5, q6, nr, wx, wy, wz, rfl, hL1, hF1, hL2, hF2, hbs⟩ := open_two (hval 0 44 v0 rfl rfl) h0
  obtain ⟨a1, rfl, rfl, rfl, w1⟩ := open_int Try.underlying3 (hval 1 3 v1 rfl rfl) h1
  have b1 := bounds_i64 w1
  clear hA0 hval0
  refine (walk kk1 rr1 x1 y1 z1 o1 L1 c1 k2 r2 x2 y2 z2 o2 L2 c2 pp0 p1 p2 p3 p4 p5 p6 q0 q1 q2 q3 q4 q5 q6 nr wx wy wz a1 W hbs hL1 hF1 hL2 hF2 (by omega)).mono fun e W' ⟨he, bel⟩ => ?_
  subst he
  exact ⟨_, rfl, _, _, _, [], _, [], hW', trodAll_mk1 (shut_bool Try.underlying4 _), (trodAll_cons_mk (Below.trod laidOut (by kernel_rfl) (of_decide_eq_true (by kernel_rfl)) k0 bel lt0) (trodAll_cons_mk (shut_int Try.underlying3 w1) trodAll_mk0)), rfl, bel.frame _, fun h => by cases h⟩

theorem over : Rows.narrowThickRow.holds Try.pinned (OpenSpec.ofChange Rows.narrowThickSpec) :=
  OpenClaim.holds_of_wide 7 Try.f7 rfl rfl rfl rfl rfl rfl rfl ⟨rfl, rfl, rfl, rfl, rfl⟩ rfl rfl rfl rfl rfl (by kernel_rfl) Try.func7 (by kernel_rfl)
    (of_decide_eq_true (by kernel_rfl)) (by unfold Func.isWrapper; first | (rw [if_pos (by decide +kernel)]; kernel_rfl) | (rw [if_neg (by decide +kernel)]; exact ⟨rfl, rfl⟩))
    (fun os started H enc _ => lifted os started H enc)

end narrowThick

theorem narrowThick_holds : Rows.NarrowThickSaid := narrowThick.over
#print axioms narrowThick_holds
end Go.Proofs.Ytccdgpijjgeedaa
