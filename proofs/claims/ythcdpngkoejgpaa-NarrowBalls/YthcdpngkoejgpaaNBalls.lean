/- Two balls are told apart by their distance, but for 2 grains and a 2^16th of it, and never by more: for all points and radii. -/
import Derived.Test.YthcdpngkoejgpaaNrK
import Derived.Test.YthcdpngkoejgpaaNBall
import Derived.Test.YthcdpngkoejgpaaOpenP
import Derived.Test.YthcdpngkoejgpaaRows
import Derived.ProofKit
import Derived.OpenShut
namespace Go.Proofs.Ythcdpngkoejgpaa
namespace narrowBalls
open Go.ChangeShapes Go.WideShapes Go.ChangeAt Go.RowKit Go.Shelf
set_option linter.unusedVariables false

theorem own : ownKnob Try.prog.godebug = none := by kernel_rfl
theorem laidOut : laidOutB Try.prog = true := by kernel_rfl
theorem may_ball {p : Pt} {r : Int} (h : (-16777216 ≤ p.x ∧ p.x ≤ 16777216) ∧ (-16777216 ≤ p.y ∧ p.y ≤ 16777216) ∧ (-16777216 ≤ p.z ∧ p.z ≤ 16777216)) (hr : 0 ≤ r ∧ r ≤ 65536) : mayP ⟨[p], [], [], r⟩ = true := by
  have := (Pt.inB_iff p 16777216).2 h
  unfold mayP
  simp [this, hr]

set_option maxHeartbeats 8000000 in
set_option maxRecDepth 100000 in
theorem walk (px py pz qx qy qz r0 s0 : Int) (w0 : World) (h_px : -9223372036854775808 ≤ px ∧ px ≤ 9223372036854775807) (h_py : -9223372036854775808 ≤ py ∧ py ≤ 9223372036854775807) (h_pz : -9223372036854775808 ≤ pz ∧ pz ≤ 9223372036854775807) (h_qx : -9223372036854775808 ≤ qx ∧ qx ≤ 9223372036854775807) (h_qy : -9223372036854775808 ≤ qy ∧ qy ≤ 9223372036854775807) (h_qz : -9223372036854775808 ≤ qz ∧ qz ≤ 9223372036854775807) (h_r0 : -9223372036854775808 ≤ r0 ∧ r0 ≤ 9223372036854775807) (h_s0 : -9223372036854775808 ≤ s0 ∧ s0 ≤ 9223372036854775807) :
    Calls Try.prog 7 #[.agg #[.int .i64 px, .int .i64 py, .int .i64 pz], .agg #[.int .i64 qx, .int .i64 qy, .int .i64 qz], .int .i64 r0, .int .i64 s0] w0 fun e w' => e = .returned (.bool true) ∧ Below w0.heap.size w0 w' := by
  have AW : Hid _ := fun W => awake9_any W
  have H_ax : Hid _ := fun w' => npick_below px 8388608 w' h_px (by decide) (by decide)
  have l_ax := pickY_lo px (n := 8388608) (by decide)
  have u_ax := pickY_hi px (n := 8388608) (by decide)
  have H_ay : Hid _ := fun w' => npick_below py 8388608 w' h_py (by decide) (by decide)
  have l_ay := pickY_lo py (n := 8388608) (by decide)
  have u_ay := pickY_hi py (n := 8388608) (by decide)
  have H_az : Hid _ := fun w' => npick_below pz 8388608 w' h_pz (by decide) (by decide)
  have l_az := pickY_lo pz (n := 8388608) (by decide)
  have u_az := pickY_hi pz (n := 8388608) (by decide)
  have H_bx : Hid _ := fun w' => npick_below qx 8388608 w' h_qx (by decide) (by decide)
  have l_bx := pickY_lo qx (n := 8388608) (by decide)
  have u_bx := pickY_hi qx (n := 8388608) (by decide)
  have H_by_ : Hid _ := fun w' => npick_below qy 8388608 w' h_qy (by decide) (by decide)
  have l_by_ := pickY_lo qy (n := 8388608) (by decide)
  have u_by_ := pickY_hi qy (n := 8388608) (by decide)
  have H_bz : Hid _ := fun w' => npick_below qz 8388608 w' h_qz (by decide) (by decide)
  have l_bz := pickY_lo qz (n := 8388608) (by decide)
  have u_bz := pickY_hi qz (n := 8388608) (by decide)
  have H_r : Hid _ := fun w' => npick_below r0 16384 w' h_r0 (by decide) (by decide)
  have l_r := pickY_lo r0 (n := 16384) (by decide)
  have u_r := pickY_hi r0 (n := 16384) (by decide)
  have H_s : Hid _ := fun w' => npick_below s0 16384 w' h_s0 (by decide) (by decide)
  have l_s := pickY_lo s0 (n := 16384) (by decide)
  have u_s := pickY_hi s0 (n := 16384) (by decide)
  generalize pickY px 8388608 = ax at *
  generalize pickY py 8388608 = ay at *
  generalize pickY pz 8388608 = az at *
  generalize pickY qx 8388608 = bx at *
  generalize pickY qy 8388608 = by_ at *
  generalize pickY qz 8388608 = bz at *
  generalize pickY r0 16384 = rr at *
  generalize pickY s0 16384 = ss at *
  clear h_px
  clear h_py
  clear h_pz
  clear h_qx
  clear h_qy
  clear h_qz
  clear h_r0
  clear h_s0
  obtain ⟨ax1, e_ax⟩ : ∃ z, ax - 4194304 = z := ⟨_, rfl⟩
  have w_ax : IntKind.i64.wrap (ax - 4194304) = ax1 := by rw [e_ax, IntKind.wrap_i64]; omega
  obtain ⟨ay1, e_ay⟩ : ∃ z, ay - 4194304 = z := ⟨_, rfl⟩
  have w_ay : IntKind.i64.wrap (ay - 4194304) = ay1 := by rw [e_ay, IntKind.wrap_i64]; omega
  obtain ⟨az1, e_az⟩ : ∃ z, az - 4194304 = z := ⟨_, rfl⟩
  have w_az : IntKind.i64.wrap (az - 4194304) = az1 := by rw [e_az, IntKind.wrap_i64]; omega
  obtain ⟨bx1, e_bx⟩ : ∃ z, bx - 4194304 = z := ⟨_, rfl⟩
  have w_bx : IntKind.i64.wrap (bx - 4194304) = bx1 := by rw [e_bx, IntKind.wrap_i64]; omega
  obtain ⟨by_1, e_by_⟩ : ∃ z, by_ - 4194304 = z := ⟨_, rfl⟩
  have w_by_ : IntKind.i64.wrap (by_ - 4194304) = by_1 := by rw [e_by_, IntKind.wrap_i64]; omega
  obtain ⟨bz1, e_bz⟩ : ∃ z, bz - 4194304 = z := ⟨_, rfl⟩
  have w_bz : IntKind.i64.wrap (bz - 4194304) = bz1 := by rw [e_bz, IntKind.wrap_i64]; omega
  obtain ⟨r1, e_r⟩ : ∃ z, 1 + rr = z := ⟨_, rfl⟩
  have w_r : IntKind.i64.wrap (1 + rr) = r1 := by rw [e_r, IntKind.wrap_i64]; omega
  obtain ⟨s1, e_s⟩ : ∃ z, 1 + ss = z := ⟨_, rfl⟩
  have w_s : IntKind.i64.wrap (1 + ss) = s1 := by rw [e_s, IntKind.wrap_i64]; omega
  have hr1 : 1 ≤ r1 ∧ r1 ≤ 16384 := by omega
  have hs1 : 1 ≤ s1 ∧ s1 ≤ 16384 := by omega
  have k_ax : -4194304 ≤ ax1 ∧ ax1 ≤ 4194303 := by omega
  have k_ay : -4194304 ≤ ay1 ∧ ay1 ≤ 4194303 := by omega
  have k_az : -4194304 ≤ az1 ∧ az1 ≤ 4194303 := by omega
  have k_bx : -4194304 ≤ bx1 ∧ bx1 ≤ 4194303 := by omega
  have k_by_ : -4194304 ≤ by_1 ∧ by_1 ≤ 4194303 := by omega
  have k_bz : -4194304 ≤ bz1 ∧ bz1 ≤ 4194303 := by omega
  clear e_ax l_ax u_ax
  clear e_ay l_ay u_ay
  clear e_az l_az u_az
  clear e_bx l_bx u_bx
  clear e_by_ l_by_ u_by_
  clear e_bz l_bz u_bz
  clear e_r l_r u_r
  clear e_s l_s u_s
  obtain ⟨W1, hW1⟩ : ∃ V, V = (w0.alloc (.cells #[.int .i64 px, .int .i64 py, .int .i64 pz] 26)).alloc (.cells #[.int .i64 qx, .int .i64 qy, .int .i64 qz] 26) := ⟨_, rfl⟩
  have c9 : Hid (CelW W1 w0.heap.size [.int .i64 px, .int .i64 py, .int .i64 pz] ∧ CelW W1 (w0.heap.size + 1) [.int .i64 qx, .int .i64 qy, .int .i64 qz]) := by
    show _ ∧ _
    rw [hW1]
    refine ⟨(CelW.new w0 [.int .i64 px, .int .i64 py, .int .i64 pz] 26).step (n_after _ _), ?_⟩
    have h := CelW.new (w0.alloc (.cells #[.int .i64 px, .int .i64 py, .int .i64 pz] 26)) [.int .i64 qx, .int .i64 qy, .int .i64 qz] 26
    rw [World.size_alloc] at h
    exact h
  have HB : Hid (Below w0.heap.size w0 W1) := by show Below _ _ _; rw [hW1]; exact b_step (n_after _ _) (n_after _ _)
  obtain ⟨pb, hpb⟩ : ∃ b, b = w0.heap.size := ⟨_, rfl⟩
  obtain ⟨qb, hqb⟩ : ∃ b, b = w0.heap.size + 1 := ⟨_, rfl⟩
  rw [← hqb, ← hpb] at c9
  have hpw : w0.heap.size ≤ pb ∧ w0.heap.size ≤ qb ∧ pb ≠ qb := by omega
  go_enter Try.func7, Try.ntmps7
  go_upto_region 1 with fail
  rw [← hW1, ← hqb, ← hpb]
  clear hW1 hqb hpb
  have CP : Hid _ := c9.out.1
  have CQ : Hid _ := c9.out.2
  clear c9
  go_wp2_with (fail)
  refine Calls.mono (AW.out _) ?_
  rintro e V1 ⟨rfl, hb⟩
  have CP : Hid _ := CelW.step CP.out hb
  have CQ : Hid _ := CelW.step CQ.out hb
  have HB : Hid _ := b_step HB.out hb
  clear hb AW
  have x0 := (CP.out 0 _ rfl).1
  have f0 := (CP.out 0 _ rfl).2
  have x1 := (CP.out 1 _ rfl).1
  have f1 := (CP.out 1 _ rfl).2
  have x2 := (CP.out 2 _ rfl).1
  have f2 := (CP.out 2 _ rfl).2
  go_upto_region 2 with fail
  go_cut [] from 17 to 29 (fun wx => ∃ w8 : World, wx = ((w8.setCell ⟨pb, 0, none⟩ (.int .i64 ax1)).setCell ⟨pb, 1, none⟩ (.int .i64 ay1)).setCell ⟨pb, 2, none⟩ (.int .i64 az1) ∧ Hid (Below V1.heap.size V1 w8))
  case first =>
    clear CP CQ HB
    refine RV.region_by (fun j v w => match j with | 0 => v = .pointer (some ⟨pb, 0, none⟩) | 1 => v = .int .i64 (px) | 2 => v = .int .i64 (ax) | 3 => v = .int .i64 (ax1) | 4 => v = .pointer (some ⟨pb, 1, none⟩) | 5 => v = .int .i64 (py) | 6 => v = .int .i64 (ay) | 7 => v = .int .i64 (ay1) | 8 => v = .pointer (some ⟨pb, 2, none⟩) | 9 => v = .int .i64 (pz) | 10 => v = .int .i64 (az) | 11 => v = .int .i64 (az1) | 12 => v = .agg #[.int .i64 (ax1), .int .i64 (ay1), .int .i64 (az1)] | 13 => True | _ => True) (fun γ L w9 => (L 13 = false ∧ Below V1.heap.size V1 w9) ∨ (L 13 = true ∧ ∃ w, Below V1.heap.size V1 w ∧ w9 = (((w.setCell ⟨pb, 0, none⟩ (.int .i64 (ax1))).setCell ⟨pb, 1, none⟩ (.int .i64 (ay1))).setCell ⟨pb, 2, none⟩ (.int .i64 (az1))))) (by kernel_rfl) (by kernel_rfl) (by kernel_rfl) (by kernel_rfl) ?_ ?_ ?_
    · exact Or.inl ⟨rfl, (Below.refl _ V1).drew⟩
    · generalize hD : dstOf _ = D
      generalize hWA : waitsFor _ = WA
      generalize hZ : Act.mk _ _ = Z
      obtain ⟨R, hR⟩ : ∃ R : Nat → Value → World → Prop, R = (fun j v w => match j with | 0 => v = .pointer (some ⟨pb, 0, none⟩) | 1 => v = .int .i64 (px) | 2 => v = .int .i64 (ax) | 3 => v = .int .i64 (ax1) | 4 => v = .pointer (some ⟨pb, 1, none⟩) | 5 => v = .int .i64 (py) | 6 => v = .int .i64 (ay) | 7 => v = .int .i64 (ay1) | 8 => v = .pointer (some ⟨pb, 2, none⟩) | 9 => v = .int .i64 (pz) | 10 => v = .int .i64 (az) | 11 => v = .int .i64 (az1) | 12 => v = .agg #[.int .i64 (ax1), .int .i64 (ay1), .int .i64 (az1)] | 13 => True | _ => True) := ⟨_, rfl⟩
      rw [← hR]
      have d0 : D 0 = some 17 := by rw [← hD]; rfl
      have d1 : D 1 = some 18 := by rw [← hD]; rfl
      have d2 : D 2 = some 19 := by rw [← hD]; rfl
      have d3 : D 3 = some 20 := by rw [← hD]; rfl
      have d4 : D 4 = some 21 := by rw [← hD]; rfl
      have d5 : D 5 = some 22 := by rw [← hD]; rfl
      have d6 : D 6 = some 23 := by rw [← hD]; rfl
      have d7 : D 7 = some 24 := by rw [← hD]; rfl
      have d8 : D 8 = some 25 := by rw [← hD]; rfl
      have d9 : D 9 = some 26 := by rw [← hD]; rfl
      have d10 : D 10 = some 27 := by rw [← hD]; rfl
      have d11 : D 11 = some 28 := by rw [← hD]; rfl
      have d12 : D 12 = some 29 := by rw [← hD]; rfl
      have r0 : ∀ v w, R 0 v w = (v = .pointer (some ⟨pb, 0, none⟩)) := fun v w => by rw [hR]; rfl
      have r1 : ∀ v w, R 1 v w = (v = .int .i64 (px)) := fun v w => by rw [hR]; rfl
      have r2 : ∀ v w, R 2 v w = (v = .int .i64 (ax)) := fun v w => by rw [hR]; rfl
      have r3 : ∀ v w, R 3 v w = (v = .int .i64 (ax1)) := fun v w => by rw [hR]; rfl
      have r4 : ∀ v w, R 4 v w = (v = .pointer (some ⟨pb, 1, none⟩)) := fun v w => by rw [hR]; rfl
      have r5 : ∀ v w, R 5 v w = (v = .int .i64 (py)) := fun v w => by rw [hR]; rfl
      have r6 : ∀ v w, R 6 v w = (v = .int .i64 (ay)) := fun v w => by rw [hR]; rfl
      have r7 : ∀ v w, R 7 v w = (v = .int .i64 (ay1)) := fun v w => by rw [hR]; rfl
      have r8 : ∀ v w, R 8 v w = (v = .pointer (some ⟨pb, 2, none⟩)) := fun v w => by rw [hR]; rfl
      have r9 : ∀ v w, R 9 v w = (v = .int .i64 (pz)) := fun v w => by rw [hR]; rfl
      have r10 : ∀ v w, R 10 v w = (v = .int .i64 (az)) := fun v w => by rw [hR]; rfl
      have r11 : ∀ v w, R 11 v w = (v = .int .i64 (az1)) := fun v w => by rw [hR]; rfl
      have r12 : ∀ v w, R 12 v w = (v = .agg #[.int .i64 (ax1), .int .i64 (ay1), .int .i64 (az1)]) := fun v w => by rw [hR]; rfl
      have r13 : ∀ v w, R 13 v w = (True) := fun v w => by rw [hR]; rfl
      have E4 : ∀ (γ : Nat → Value) (L : Nat → Bool) (a : Act) (w : World), RV.Held D WA R (fun γ L w9 => (L 13 = false ∧ Below V1.heap.size V1 w9) ∨ (L 13 = true ∧ ∃ w, Below V1.heap.size V1 w ∧ w9 = (((w.setCell ⟨pb, 0, none⟩ (.int .i64 (ax1))).setCell ⟨pb, 1, none⟩ (.int .i64 (ay1))).setCell ⟨pb, 2, none⟩ (.int .i64 (az1))))) Z γ L a w → a.tmps[4]? = some (.pointer (some ⟨pb, 0, none⟩)) := fun γ L a w hH => (hH.rest 4 (by rw [← hD]; exact RV.dst_free (by kernel_rfl))).trans (by rw [← hZ]; rfl)
      have K : ∀ j v w w', R j v w → R j v w' := by rw [hR]; intro j v w w' h; exact h
      have A_13_1 : WA 13 1 := by rw [← hWA]; exact ⟨_, rfl, ⟨1, .phase⟩, by simp, rfl, rfl⟩
      have A_13_2 : WA 13 2 := by rw [← hWA]; exact ⟨_, rfl, ⟨2, .phase⟩, by simp, rfl, rfl⟩
      have A_13_5 : WA 13 5 := by rw [← hWA]; exact ⟨_, rfl, ⟨5, .phase⟩, by simp, rfl, rfl⟩
      have A_13_6 : WA 13 6 := by rw [← hWA]; exact ⟨_, rfl, ⟨6, .phase⟩, by simp, rfl, rfl⟩
      have A_13_9 : WA 13 9 := by rw [← hWA]; exact ⟨_, rfl, ⟨9, .phase⟩, by simp, rfl, rfl⟩
      have A_13_10 : WA 13 10 := by rw [← hWA]; exact ⟨_, rfl, ⟨10, .phase⟩, by simp, rfl, rfl⟩
      clear hD hWA hZ hR
      refine RV.AllDo.cons 0 (RV.does_pure (fun γ v L w hl h => by rw [RV.more_ne (L := L) (i := 0) (j := 13) (by decide)]; exact h) (fun γ L a w hH hl hA => by have e0 := E4 γ L a w hH; exact ⟨.pointer (some ⟨pb, 0, none⟩), by simp [execOp, go_sem, e0], (r0 _ _).mpr rfl⟩)) ?_
      refine RV.AllDo.cons 1 (RV.does_pure (fun γ v L w hl h => by rw [RV.more_ne (L := L) (i := 1) (j := 13) (by decide)]; exact h) (fun γ L a w hH hl hA => by have l0 : L 0 = true := hA ⟨0, .data⟩ (by simp) rfl; have e0 := hH.slot 0 17 d0 l0; have g0 := hH.holds 0 l0; rw [r0] at g0; rw [g0] at e0; have hB9 := early9 hH.glob (RV.not_yet hH A_13_1 hl); have z0 := c_after hB9 x0; exact ⟨.int .i64 (px), by simp [execOp, go_sem, e0, z0], (r1 _ _).mpr rfl⟩)) ?_
      refine RV.AllDo.cons 2 (RV.does_call (fun γ L a w hH hl hA => by have l0 : L 1 = true := hA ⟨1, .data⟩ (by simp) rfl; have e0 := hH.slot 1 18 d1 l0; have g0 := hH.holds 1 l0; rw [r1] at g0; rw [g0] at e0; have hB9 := early9 hH.glob (RV.not_yet hH A_13_2 hl); exact ⟨18, #[.int .i64 (px), .int .i64 (8388608)], by simp [go_sem, e0], Calls.mono (H_ax.out w) (by rintro e w2 ⟨rfl, hb⟩; exact ⟨_, rfl, (r2 _ _).mpr rfl, fun j v _ h => K j v _ _ h, Or.inl ⟨by rw [RV.more_ne (L := L) (i := 2) (j := 13) (by decide)]; exact RV.not_yet hH A_13_2 hl, hB9.trans (hb.mono hB9.size)⟩⟩)⟩)) ?_
      refine RV.AllDo.cons 3 (RV.does_pure (fun γ v L w hl h => by rw [RV.more_ne (L := L) (i := 3) (j := 13) (by decide)]; exact h) (fun γ L a w hH hl hA => by have l0 : L 2 = true := hA ⟨2, .data⟩ (by simp) rfl; have e0 := hH.slot 2 19 d2 l0; have g0 := hH.holds 2 l0; rw [r2] at g0; rw [g0] at e0; exact ⟨.int .i64 (ax1), by simp [execOp, go_sem, e0, w_ax], (r3 _ _).mpr rfl⟩)) ?_
      refine RV.AllDo.cons 4 (RV.does_pure (fun γ v L w hl h => by rw [RV.more_ne (L := L) (i := 4) (j := 13) (by decide)]; exact h) (fun γ L a w hH hl hA => by have e0 := E4 γ L a w hH; exact ⟨.pointer (some ⟨pb, 1, none⟩), by simp [execOp, go_sem, e0], (r4 _ _).mpr rfl⟩)) ?_
      refine RV.AllDo.cons 5 (RV.does_pure (fun γ v L w hl h => by rw [RV.more_ne (L := L) (i := 5) (j := 13) (by decide)]; exact h) (fun γ L a w hH hl hA => by have l0 : L 4 = true := hA ⟨4, .data⟩ (by simp) rfl; have e0 := hH.slot 4 21 d4 l0; have g0 := hH.holds 4 l0; rw [r4] at g0; rw [g0] at e0; have hB9 := early9 hH.glob (RV.not_yet hH A_13_5 hl); have z0 := c_after hB9 x1; exact ⟨.int .i64 (py), by simp [execOp, go_sem, e0, z0], (r5 _ _).mpr rfl⟩)) ?_
      refine RV.AllDo.cons 6 (RV.does_call (fun γ L a w hH hl hA => by have l0 : L 5 = true := hA ⟨5, .data⟩ (by simp) rfl; have e0 := hH.slot 5 22 d5 l0; have g0 := hH.holds 5 l0; rw [r5] at g0; rw [g0] at e0; have hB9 := early9 hH.glob (RV.not_yet hH A_13_6 hl); exact ⟨18, #[.int .i64 (py), .int .i64 (8388608)], by simp [go_sem, e0], Calls.mono (H_ay.out w) (by rintro e w2 ⟨rfl, hb⟩; exact ⟨_, rfl, (r6 _ _).mpr rfl, fun j v _ h => K j v _ _ h, Or.inl ⟨by rw [RV.more_ne (L := L) (i := 6) (j := 13) (by decide)]; exact RV.not_yet hH A_13_6 hl, hB9.trans (hb.mono hB9.size)⟩⟩)⟩)) ?_
      refine RV.AllDo.cons 7 (RV.does_pure (fun γ v L w hl h => by rw [RV.more_ne (L := L) (i := 7) (j := 13) (by decide)]; exact h) (fun γ L a w hH hl hA => by have l0 : L 6 = true := hA ⟨6, .data⟩ (by simp) rfl; have e0 := hH.slot 6 23 d6 l0; have g0 := hH.holds 6 l0; rw [r6] at g0; rw [g0] at e0; exact ⟨.int .i64 (ay1), by simp [execOp, go_sem, e0, w_ay], (r7 _ _).mpr rfl⟩)) ?_
      refine RV.AllDo.cons 8 (RV.does_pure (fun γ v L w hl h => by rw [RV.more_ne (L := L) (i := 8) (j := 13) (by decide)]; exact h) (fun γ L a w hH hl hA => by have e0 := E4 γ L a w hH; exact ⟨.pointer (some ⟨pb, 2, none⟩), by simp [execOp, go_sem, e0], (r8 _ _).mpr rfl⟩)) ?_
      refine RV.AllDo.cons 9 (RV.does_pure (fun γ v L w hl h => by rw [RV.more_ne (L := L) (i := 9) (j := 13) (by decide)]; exact h) (fun γ L a w hH hl hA => by have l0 : L 8 = true := hA ⟨8, .data⟩ (by simp) rfl; have e0 := hH.slot 8 25 d8 l0; have g0 := hH.holds 8 l0; rw [r8] at g0; rw [g0] at e0; have hB9 := early9 hH.glob (RV.not_yet hH A_13_9 hl); have z0 := c_after hB9 x2; exact ⟨.int .i64 (pz), by simp [execOp, go_sem, e0, z0], (r9 _ _).mpr rfl⟩)) ?_
      refine RV.AllDo.cons 10 (RV.does_call (fun γ L a w hH hl hA => by have l0 : L 9 = true := hA ⟨9, .data⟩ (by simp) rfl; have e0 := hH.slot 9 26 d9 l0; have g0 := hH.holds 9 l0; rw [r9] at g0; rw [g0] at e0; have hB9 := early9 hH.glob (RV.not_yet hH A_13_10 hl); exact ⟨18, #[.int .i64 (pz), .int .i64 (8388608)], by simp [go_sem, e0], Calls.mono (H_az.out w) (by rintro e w2 ⟨rfl, hb⟩; exact ⟨_, rfl, (r10 _ _).mpr rfl, fun j v _ h => K j v _ _ h, Or.inl ⟨by rw [RV.more_ne (L := L) (i := 10) (j := 13) (by decide)]; exact RV.not_yet hH A_13_10 hl, hB9.trans (hb.mono hB9.size)⟩⟩)⟩)) ?_
      refine RV.AllDo.cons 11 (RV.does_pure (fun γ v L w hl h => by rw [RV.more_ne (L := L) (i := 11) (j := 13) (by decide)]; exact h) (fun γ L a w hH hl hA => by have l0 : L 10 = true := hA ⟨10, .data⟩ (by simp) rfl; have e0 := hH.slot 10 27 d10 l0; have g0 := hH.holds 10 l0; rw [r10] at g0; rw [g0] at e0; exact ⟨.int .i64 (az1), by simp [execOp, go_sem, e0, w_az], (r11 _ _).mpr rfl⟩)) ?_
      refine RV.AllDo.cons 12 (RV.does_pure (fun γ v L w hl h => by rw [RV.more_ne (L := L) (i := 12) (j := 13) (by decide)]; exact h) (fun γ L a w hH hl hA => by have l0 : L 3 = true := hA ⟨3, .data⟩ (by simp) rfl; have e0 := hH.slot 3 20 d3 l0; have g0 := hH.holds 3 l0; rw [r3] at g0; rw [g0] at e0; have l1 : L 7 = true := hA ⟨7, .data⟩ (by simp) rfl; have e1 := hH.slot 7 24 d7 l1; have g1 := hH.holds 7 l1; rw [r7] at g1; rw [g1] at e1; have l2 : L 11 = true := hA ⟨11, .data⟩ (by simp) rfl; have e2 := hH.slot 11 28 d11 l2; have g2 := hH.holds 11 l2; rw [r11] at g2; rw [g2] at e2; exact ⟨.agg #[.int .i64 (ax1), .int .i64 (ay1), .int .i64 (az1)], by simp [execOp, go_sem, e0, e1, e2], (r12 _ _).mpr rfl⟩)) ?_
      refine RV.AllDo.cons 13 (RV.does_store (fun γ L a w hH hl hA => by have e0 := E4 γ L a w hH; have l1 : L 12 = true := hA ⟨12, .data⟩ (by simp) rfl; have e1 := hH.slot 12 29 d12 l1; have g1 := hH.holds 12 l1; rw [r12] at g1; rw [g1] at e1; have hB9 := early9 hH.glob hl; have z0 := c_after hB9 x0; have zf0 := f_after hB9 x0 f0; have z1 := c_after hB9 x1; have zf1 := f_after hB9 x1 f1; have z2 := c_after hB9 x2; have zf2 := f_after hB9 x2 f2; exact ⟨(((w.setCell ⟨pb, 0, none⟩ (.int .i64 (ax1))).setCell ⟨pb, 1, none⟩ (.int .i64 (ay1))).setCell ⟨pb, 2, none⟩ (.int .i64 (az1))), by simp [execOp, go_sem, e0, e1, z0, zf0, z1, zf1, z2, zf2], (r13 _ _).mpr trivial, fun j v _ h => K j v _ _ h, Or.inr ⟨RV.more_self, w, hB9, rfl⟩⟩)) ?_
      exact RV.AllDo.nil
    · intro γ a5 w5 L9 hL hLo hH
      have ha := RV.held_act hH hL (by kernel_rfl) (by kernel_rfl)
      obtain ⟨w8, hb8, rfl⟩ := late9 hH.glob (hL 13 (by decide))
      have y0 : γ 0 = .pointer (some ⟨pb, 0, none⟩) := hH.holds 0 (hL 0 (by decide))
      have y1 : γ 1 = .int .i64 (px) := hH.holds 1 (hL 1 (by decide))
      have y2 : γ 2 = .int .i64 (ax) := hH.holds 2 (hL 2 (by decide))
      have y3 : γ 3 = .int .i64 (ax1) := hH.holds 3 (hL 3 (by decide))
      have y4 : γ 4 = .pointer (some ⟨pb, 1, none⟩) := hH.holds 4 (hL 4 (by decide))
      have y5 : γ 5 = .int .i64 (py) := hH.holds 5 (hL 5 (by decide))
      have y6 : γ 6 = .int .i64 (ay) := hH.holds 6 (hL 6 (by decide))
      have y7 : γ 7 = .int .i64 (ay1) := hH.holds 7 (hL 7 (by decide))
      have y8 : γ 8 = .pointer (some ⟨pb, 2, none⟩) := hH.holds 8 (hL 8 (by decide))
      have y9 : γ 9 = .int .i64 (pz) := hH.holds 9 (hL 9 (by decide))
      have y10 : γ 10 = .int .i64 (az) := hH.holds 10 (hL 10 (by decide))
      have y11 : γ 11 = .int .i64 (az1) := hH.holds 11 (hL 11 (by decide))
      have y12 : γ 12 = .agg #[.int .i64 (ax1), .int .i64 (ay1), .int .i64 (az1)] := hH.holds 12 (hL 12 (by decide))
      rw [ha]
      clear ha hH hL hLo
      simp only [RV.putAll, Act.put, List.setIfInBounds_toArray, List.set_cons_zero, List.set_cons_succ, Nat.zero_add, Nat.reduceAdd, y0, y1, y2, y3, y4, y5, y6, y7, y8, y9, y10, y11, y12]
      clear y0 y1 y2 y3 y4 y5 y6 y7 y8 y9 y10 y11 y12
      have HZ : Hid _ := hb8
      go_wp2_with (fail)
      go_meet
      case rel => exact ⟨w8, rfl, HZ⟩
  case rest =>
    obtain ⟨w8, hw8, HZ⟩ := hcut
    have CP : Hid (CelW wc pb [.int .i64 ax1, .int .i64 ay1, .int .i64 az1]) := by show CelW _ _ _; rw [hw8]; exact (((CelW.step CP.out HZ.out).set 0 (.int .i64 ax1) (by simp)).set 1 (.int .i64 ay1) (by simp)).set 2 (.int .i64 az1) (by simp)
    have CQ : Hid (CelW wc qb [.int .i64 qx, .int .i64 qy, .int .i64 qz]) := by show CelW _ _ _; rw [hw8]; exact ((((CelW.step CQ.out HZ.out).other (Ne.symm hpw.2.2) _ _).other (Ne.symm hpw.2.2) _ _).other (Ne.symm hpw.2.2) _ _)
    have HB : Hid (Below w0.heap.size w0 wc) := by show Below _ _ _; rw [hw8]; exact (((b_step HB.out HZ.out).setCell hpw.1 _).setCell hpw.1 _).setCell hpw.1 _
    clear hw8 HZ x0 x1 x2 f0 f1 f2 w8
    obtain ⟨V2, hV2⟩ : ∃ V, V = wc := ⟨_, rfl⟩
    rw [← hV2] at CP CQ HB ⊢
    clear hV2
    have x0 := (CQ.out 0 _ rfl).1
    have f0 := (CQ.out 0 _ rfl).2
    have x1 := (CQ.out 1 _ rfl).1
    have f1 := (CQ.out 1 _ rfl).2
    have x2 := (CQ.out 2 _ rfl).1
    have f2 := (CQ.out 2 _ rfl).2
    go_upto_region 3 with fail
    go_cut [] from 30 to 42 (fun wx => ∃ w8 : World, wx = ((w8.setCell ⟨qb, 0, none⟩ (.int .i64 bx1)).setCell ⟨qb, 1, none⟩ (.int .i64 by_1)).setCell ⟨qb, 2, none⟩ (.int .i64 bz1) ∧ Hid (Below V2.heap.size V2 w8))
    case first =>
      clear CP CQ HB
      refine RV.region_by (fun j v w => match j with | 0 => v = .pointer (some ⟨qb, 0, none⟩) | 1 => v = .int .i64 (qx) | 2 => v = .int .i64 (bx) | 3 => v = .int .i64 (bx1) | 4 => v = .pointer (some ⟨qb, 1, none⟩) | 5 => v = .int .i64 (qy) | 6 => v = .int .i64 (by_) | 7 => v = .int .i64 (by_1) | 8 => v = .pointer (some ⟨qb, 2, none⟩) | 9 => v = .int .i64 (qz) | 10 => v = .int .i64 (bz) | 11 => v = .int .i64 (bz1) | 12 => v = .agg #[.int .i64 (bx1), .int .i64 (by_1), .int .i64 (bz1)] | 13 => True | _ => True) (fun γ L w9 => (L 13 = false ∧ Below V2.heap.size V2 w9) ∨ (L 13 = true ∧ ∃ w, Below V2.heap.size V2 w ∧ w9 = (((w.setCell ⟨qb, 0, none⟩ (.int .i64 (bx1))).setCell ⟨qb, 1, none⟩ (.int .i64 (by_1))).setCell ⟨qb, 2, none⟩ (.int .i64 (bz1))))) (by kernel_rfl) (by kernel_rfl) (by kernel_rfl) (by kernel_rfl) ?_ ?_ ?_
      · exact Or.inl ⟨rfl, (Below.refl _ V2).drew⟩
      · generalize hD : dstOf _ = D
        generalize hWA : waitsFor _ = WA
        generalize hZ : Act.mk _ _ = Z
        obtain ⟨R, hR⟩ : ∃ R : Nat → Value → World → Prop, R = (fun j v w => match j with | 0 => v = .pointer (some ⟨qb, 0, none⟩) | 1 => v = .int .i64 (qx) | 2 => v = .int .i64 (bx) | 3 => v = .int .i64 (bx1) | 4 => v = .pointer (some ⟨qb, 1, none⟩) | 5 => v = .int .i64 (qy) | 6 => v = .int .i64 (by_) | 7 => v = .int .i64 (by_1) | 8 => v = .pointer (some ⟨qb, 2, none⟩) | 9 => v = .int .i64 (qz) | 10 => v = .int .i64 (bz) | 11 => v = .int .i64 (bz1) | 12 => v = .agg #[.int .i64 (bx1), .int .i64 (by_1), .int .i64 (bz1)] | 13 => True | _ => True) := ⟨_, rfl⟩
        rw [← hR]
        have d0 : D 0 = some 30 := by rw [← hD]; rfl
        have d1 : D 1 = some 31 := by rw [← hD]; rfl
        have d2 : D 2 = some 32 := by rw [← hD]; rfl
        have d3 : D 3 = some 33 := by rw [← hD]; rfl
        have d4 : D 4 = some 34 := by rw [← hD]; rfl
        have d5 : D 5 = some 35 := by rw [← hD]; rfl
        have d6 : D 6 = some 36 := by rw [← hD]; rfl
        have d7 : D 7 = some 37 := by rw [← hD]; rfl
        have d8 : D 8 = some 38 := by rw [← hD]; rfl
        have d9 : D 9 = some 39 := by rw [← hD]; rfl
        have d10 : D 10 = some 40 := by rw [← hD]; rfl
        have d11 : D 11 = some 41 := by rw [← hD]; rfl
        have d12 : D 12 = some 42 := by rw [← hD]; rfl
        have r0 : ∀ v w, R 0 v w = (v = .pointer (some ⟨qb, 0, none⟩)) := fun v w => by rw [hR]; rfl
        have r1 : ∀ v w, R 1 v w = (v = .int .i64 (qx)) := fun v w => by rw [hR]; rfl
        have r2 : ∀ v w, R 2 v w = (v = .int .i64 (bx)) := fun v w => by rw [hR]; rfl
        have r3 : ∀ v w, R 3 v w = (v = .int .i64 (bx1)) := fun v w => by rw [hR]; rfl
        have r4 : ∀ v w, R 4 v w = (v = .pointer (some ⟨qb, 1, none⟩)) := fun v w => by rw [hR]; rfl
        have r5 : ∀ v w, R 5 v w = (v = .int .i64 (qy)) := fun v w => by rw [hR]; rfl
        have r6 : ∀ v w, R 6 v w = (v = .int .i64 (by_)) := fun v w => by rw [hR]; rfl
        have r7 : ∀ v w, R 7 v w = (v = .int .i64 (by_1)) := fun v w => by rw [hR]; rfl
        have r8 : ∀ v w, R 8 v w = (v = .pointer (some ⟨qb, 2, none⟩)) := fun v w => by rw [hR]; rfl
        have r9 : ∀ v w, R 9 v w = (v = .int .i64 (qz)) := fun v w => by rw [hR]; rfl
        have r10 : ∀ v w, R 10 v w = (v = .int .i64 (bz)) := fun v w => by rw [hR]; rfl
        have r11 : ∀ v w, R 11 v w = (v = .int .i64 (bz1)) := fun v w => by rw [hR]; rfl
        have r12 : ∀ v w, R 12 v w = (v = .agg #[.int .i64 (bx1), .int .i64 (by_1), .int .i64 (bz1)]) := fun v w => by rw [hR]; rfl
        have r13 : ∀ v w, R 13 v w = (True) := fun v w => by rw [hR]; rfl
        have E5 : ∀ (γ : Nat → Value) (L : Nat → Bool) (a : Act) (w : World), RV.Held D WA R (fun γ L w9 => (L 13 = false ∧ Below V2.heap.size V2 w9) ∨ (L 13 = true ∧ ∃ w, Below V2.heap.size V2 w ∧ w9 = (((w.setCell ⟨qb, 0, none⟩ (.int .i64 (bx1))).setCell ⟨qb, 1, none⟩ (.int .i64 (by_1))).setCell ⟨qb, 2, none⟩ (.int .i64 (bz1))))) Z γ L a w → a.tmps[5]? = some (.pointer (some ⟨qb, 0, none⟩)) := fun γ L a w hH => (hH.rest 5 (by rw [← hD]; exact RV.dst_free (by kernel_rfl))).trans (by rw [← hZ]; rfl)
        have K : ∀ j v w w', R j v w → R j v w' := by rw [hR]; intro j v w w' h; exact h
        have A_13_1 : WA 13 1 := by rw [← hWA]; exact ⟨_, rfl, ⟨1, .phase⟩, by simp, rfl, rfl⟩
        have A_13_2 : WA 13 2 := by rw [← hWA]; exact ⟨_, rfl, ⟨2, .phase⟩, by simp, rfl, rfl⟩
        have A_13_5 : WA 13 5 := by rw [← hWA]; exact ⟨_, rfl, ⟨5, .phase⟩, by simp, rfl, rfl⟩
        have A_13_6 : WA 13 6 := by rw [← hWA]; exact ⟨_, rfl, ⟨6, .phase⟩, by simp, rfl, rfl⟩
        have A_13_9 : WA 13 9 := by rw [← hWA]; exact ⟨_, rfl, ⟨9, .phase⟩, by simp, rfl, rfl⟩
        have A_13_10 : WA 13 10 := by rw [← hWA]; exact ⟨_, rfl, ⟨10, .phase⟩, by simp, rfl, rfl⟩
        clear hD hWA hZ hR
        refine RV.AllDo.cons 0 (RV.does_pure (fun γ v L w hl h => by rw [RV.more_ne (L := L) (i := 0) (j := 13) (by decide)]; exact h) (fun γ L a w hH hl hA => by have e0 := E5 γ L a w hH; exact ⟨.pointer (some ⟨qb, 0, none⟩), by simp [execOp, go_sem, e0], (r0 _ _).mpr rfl⟩)) ?_
        refine RV.AllDo.cons 1 (RV.does_pure (fun γ v L w hl h => by rw [RV.more_ne (L := L) (i := 1) (j := 13) (by decide)]; exact h) (fun γ L a w hH hl hA => by have l0 : L 0 = true := hA ⟨0, .data⟩ (by simp) rfl; have e0 := hH.slot 0 30 d0 l0; have g0 := hH.holds 0 l0; rw [r0] at g0; rw [g0] at e0; have hB9 := early9 hH.glob (RV.not_yet hH A_13_1 hl); have z0 := c_after hB9 x0; exact ⟨.int .i64 (qx), by simp [execOp, go_sem, e0, z0], (r1 _ _).mpr rfl⟩)) ?_
        refine RV.AllDo.cons 2 (RV.does_call (fun γ L a w hH hl hA => by have l0 : L 1 = true := hA ⟨1, .data⟩ (by simp) rfl; have e0 := hH.slot 1 31 d1 l0; have g0 := hH.holds 1 l0; rw [r1] at g0; rw [g0] at e0; have hB9 := early9 hH.glob (RV.not_yet hH A_13_2 hl); exact ⟨18, #[.int .i64 (qx), .int .i64 (8388608)], by simp [go_sem, e0], Calls.mono (H_bx.out w) (by rintro e w2 ⟨rfl, hb⟩; exact ⟨_, rfl, (r2 _ _).mpr rfl, fun j v _ h => K j v _ _ h, Or.inl ⟨by rw [RV.more_ne (L := L) (i := 2) (j := 13) (by decide)]; exact RV.not_yet hH A_13_2 hl, hB9.trans (hb.mono hB9.size)⟩⟩)⟩)) ?_
        refine RV.AllDo.cons 3 (RV.does_pure (fun γ v L w hl h => by rw [RV.more_ne (L := L) (i := 3) (j := 13) (by decide)]; exact h) (fun γ L a w hH hl hA => by have l0 : L 2 = true := hA ⟨2, .data⟩ (by simp) rfl; have e0 := hH.slot 2 32 d2 l0; have g0 := hH.holds 2 l0; rw [r2] at g0; rw [g0] at e0; exact ⟨.int .i64 (bx1), by simp [execOp, go_sem, e0, w_bx], (r3 _ _).mpr rfl⟩)) ?_
        refine RV.AllDo.cons 4 (RV.does_pure (fun γ v L w hl h => by rw [RV.more_ne (L := L) (i := 4) (j := 13) (by decide)]; exact h) (fun γ L a w hH hl hA => by have e0 := E5 γ L a w hH; exact ⟨.pointer (some ⟨qb, 1, none⟩), by simp [execOp, go_sem, e0], (r4 _ _).mpr rfl⟩)) ?_
        refine RV.AllDo.cons 5 (RV.does_pure (fun γ v L w hl h => by rw [RV.more_ne (L := L) (i := 5) (j := 13) (by decide)]; exact h) (fun γ L a w hH hl hA => by have l0 : L 4 = true := hA ⟨4, .data⟩ (by simp) rfl; have e0 := hH.slot 4 34 d4 l0; have g0 := hH.holds 4 l0; rw [r4] at g0; rw [g0] at e0; have hB9 := early9 hH.glob (RV.not_yet hH A_13_5 hl); have z0 := c_after hB9 x1; exact ⟨.int .i64 (qy), by simp [execOp, go_sem, e0, z0], (r5 _ _).mpr rfl⟩)) ?_
        refine RV.AllDo.cons 6 (RV.does_call (fun γ L a w hH hl hA => by have l0 : L 5 = true := hA ⟨5, .data⟩ (by simp) rfl; have e0 := hH.slot 5 35 d5 l0; have g0 := hH.holds 5 l0; rw [r5] at g0; rw [g0] at e0; have hB9 := early9 hH.glob (RV.not_yet hH A_13_6 hl); exact ⟨18, #[.int .i64 (qy), .int .i64 (8388608)], by simp [go_sem, e0], Calls.mono (H_by_.out w) (by rintro e w2 ⟨rfl, hb⟩; exact ⟨_, rfl, (r6 _ _).mpr rfl, fun j v _ h => K j v _ _ h, Or.inl ⟨by rw [RV.more_ne (L := L) (i := 6) (j := 13) (by decide)]; exact RV.not_yet hH A_13_6 hl, hB9.trans (hb.mono hB9.size)⟩⟩)⟩)) ?_
        refine RV.AllDo.cons 7 (RV.does_pure (fun γ v L w hl h => by rw [RV.more_ne (L := L) (i := 7) (j := 13) (by decide)]; exact h) (fun γ L a w hH hl hA => by have l0 : L 6 = true := hA ⟨6, .data⟩ (by simp) rfl; have e0 := hH.slot 6 36 d6 l0; have g0 := hH.holds 6 l0; rw [r6] at g0; rw [g0] at e0; exact ⟨.int .i64 (by_1), by simp [execOp, go_sem, e0, w_by_], (r7 _ _).mpr rfl⟩)) ?_
        refine RV.AllDo.cons 8 (RV.does_pure (fun γ v L w hl h => by rw [RV.more_ne (L := L) (i := 8) (j := 13) (by decide)]; exact h) (fun γ L a w hH hl hA => by have e0 := E5 γ L a w hH; exact ⟨.pointer (some ⟨qb, 2, none⟩), by simp [execOp, go_sem, e0], (r8 _ _).mpr rfl⟩)) ?_
        refine RV.AllDo.cons 9 (RV.does_pure (fun γ v L w hl h => by rw [RV.more_ne (L := L) (i := 9) (j := 13) (by decide)]; exact h) (fun γ L a w hH hl hA => by have l0 : L 8 = true := hA ⟨8, .data⟩ (by simp) rfl; have e0 := hH.slot 8 38 d8 l0; have g0 := hH.holds 8 l0; rw [r8] at g0; rw [g0] at e0; have hB9 := early9 hH.glob (RV.not_yet hH A_13_9 hl); have z0 := c_after hB9 x2; exact ⟨.int .i64 (qz), by simp [execOp, go_sem, e0, z0], (r9 _ _).mpr rfl⟩)) ?_
        refine RV.AllDo.cons 10 (RV.does_call (fun γ L a w hH hl hA => by have l0 : L 9 = true := hA ⟨9, .data⟩ (by simp) rfl; have e0 := hH.slot 9 39 d9 l0; have g0 := hH.holds 9 l0; rw [r9] at g0; rw [g0] at e0; have hB9 := early9 hH.glob (RV.not_yet hH A_13_10 hl); exact ⟨18, #[.int .i64 (qz), .int .i64 (8388608)], by simp [go_sem, e0], Calls.mono (H_bz.out w) (by rintro e w2 ⟨rfl, hb⟩; exact ⟨_, rfl, (r10 _ _).mpr rfl, fun j v _ h => K j v _ _ h, Or.inl ⟨by rw [RV.more_ne (L := L) (i := 10) (j := 13) (by decide)]; exact RV.not_yet hH A_13_10 hl, hB9.trans (hb.mono hB9.size)⟩⟩)⟩)) ?_
        refine RV.AllDo.cons 11 (RV.does_pure (fun γ v L w hl h => by rw [RV.more_ne (L := L) (i := 11) (j := 13) (by decide)]; exact h) (fun γ L a w hH hl hA => by have l0 : L 10 = true := hA ⟨10, .data⟩ (by simp) rfl; have e0 := hH.slot 10 40 d10 l0; have g0 := hH.holds 10 l0; rw [r10] at g0; rw [g0] at e0; exact ⟨.int .i64 (bz1), by simp [execOp, go_sem, e0, w_bz], (r11 _ _).mpr rfl⟩)) ?_
        refine RV.AllDo.cons 12 (RV.does_pure (fun γ v L w hl h => by rw [RV.more_ne (L := L) (i := 12) (j := 13) (by decide)]; exact h) (fun γ L a w hH hl hA => by have l0 : L 3 = true := hA ⟨3, .data⟩ (by simp) rfl; have e0 := hH.slot 3 33 d3 l0; have g0 := hH.holds 3 l0; rw [r3] at g0; rw [g0] at e0; have l1 : L 7 = true := hA ⟨7, .data⟩ (by simp) rfl; have e1 := hH.slot 7 37 d7 l1; have g1 := hH.holds 7 l1; rw [r7] at g1; rw [g1] at e1; have l2 : L 11 = true := hA ⟨11, .data⟩ (by simp) rfl; have e2 := hH.slot 11 41 d11 l2; have g2 := hH.holds 11 l2; rw [r11] at g2; rw [g2] at e2; exact ⟨.agg #[.int .i64 (bx1), .int .i64 (by_1), .int .i64 (bz1)], by simp [execOp, go_sem, e0, e1, e2], (r12 _ _).mpr rfl⟩)) ?_
        refine RV.AllDo.cons 13 (RV.does_store (fun γ L a w hH hl hA => by have e0 := E5 γ L a w hH; have l1 : L 12 = true := hA ⟨12, .data⟩ (by simp) rfl; have e1 := hH.slot 12 42 d12 l1; have g1 := hH.holds 12 l1; rw [r12] at g1; rw [g1] at e1; have hB9 := early9 hH.glob hl; have z0 := c_after hB9 x0; have zf0 := f_after hB9 x0 f0; have z1 := c_after hB9 x1; have zf1 := f_after hB9 x1 f1; have z2 := c_after hB9 x2; have zf2 := f_after hB9 x2 f2; exact ⟨(((w.setCell ⟨qb, 0, none⟩ (.int .i64 (bx1))).setCell ⟨qb, 1, none⟩ (.int .i64 (by_1))).setCell ⟨qb, 2, none⟩ (.int .i64 (bz1))), by simp [execOp, go_sem, e0, e1, z0, zf0, z1, zf1, z2, zf2], (r13 _ _).mpr trivial, fun j v _ h => K j v _ _ h, Or.inr ⟨RV.more_self, w, hB9, rfl⟩⟩)) ?_
        exact RV.AllDo.nil
      · intro γ a5 w5 L9 hL hLo hH
        have ha := RV.held_act hH hL (by kernel_rfl) (by kernel_rfl)
        obtain ⟨w8, hb8, rfl⟩ := late9 hH.glob (hL 13 (by decide))
        have y0 : γ 0 = .pointer (some ⟨qb, 0, none⟩) := hH.holds 0 (hL 0 (by decide))
        have y1 : γ 1 = .int .i64 (qx) := hH.holds 1 (hL 1 (by decide))
        have y2 : γ 2 = .int .i64 (bx) := hH.holds 2 (hL 2 (by decide))
        have y3 : γ 3 = .int .i64 (bx1) := hH.holds 3 (hL 3 (by decide))
        have y4 : γ 4 = .pointer (some ⟨qb, 1, none⟩) := hH.holds 4 (hL 4 (by decide))
        have y5 : γ 5 = .int .i64 (qy) := hH.holds 5 (hL 5 (by decide))
        have y6 : γ 6 = .int .i64 (by_) := hH.holds 6 (hL 6 (by decide))
        have y7 : γ 7 = .int .i64 (by_1) := hH.holds 7 (hL 7 (by decide))
        have y8 : γ 8 = .pointer (some ⟨qb, 2, none⟩) := hH.holds 8 (hL 8 (by decide))
        have y9 : γ 9 = .int .i64 (qz) := hH.holds 9 (hL 9 (by decide))
        have y10 : γ 10 = .int .i64 (bz) := hH.holds 10 (hL 10 (by decide))
        have y11 : γ 11 = .int .i64 (bz1) := hH.holds 11 (hL 11 (by decide))
        have y12 : γ 12 = .agg #[.int .i64 (bx1), .int .i64 (by_1), .int .i64 (bz1)] := hH.holds 12 (hL 12 (by decide))
        rw [ha]
        clear ha hH hL hLo
        simp only [RV.putAll, Act.put, List.setIfInBounds_toArray, List.set_cons_zero, List.set_cons_succ, Nat.zero_add, Nat.reduceAdd, y0, y1, y2, y3, y4, y5, y6, y7, y8, y9, y10, y11, y12]
        clear y0 y1 y2 y3 y4 y5 y6 y7 y8 y9 y10 y11 y12
        have HZ : Hid _ := hb8
        go_wp2_with (fail)
        go_meet
        case rel => exact ⟨w8, rfl, HZ⟩
    case rest =>
      obtain ⟨w8, hw8, HZ⟩ := hcut
      have CQ : Hid (CelW wc qb [.int .i64 bx1, .int .i64 by_1, .int .i64 bz1]) := by show CelW _ _ _; rw [hw8]; exact (((CelW.step CQ.out HZ.out).set 0 (.int .i64 bx1) (by simp)).set 1 (.int .i64 by_1) (by simp)).set 2 (.int .i64 bz1) (by simp)
      have CP : Hid (CelW wc pb [.int .i64 ax1, .int .i64 ay1, .int .i64 az1]) := by show CelW _ _ _; rw [hw8]; exact ((((CelW.step CP.out HZ.out).other hpw.2.2 _ _).other hpw.2.2 _ _).other hpw.2.2 _ _)
      have HB : Hid (Below w0.heap.size w0 wc) := by show Below _ _ _; rw [hw8]; exact (((b_step HB.out HZ.out).setCell hpw.2.1 _).setCell hpw.2.1 _).setCell hpw.2.1 _
      clear hw8 HZ x0 x1 x2 f0 f1 f2 w8
      go_wp2_with (fail)
      refine Calls.mono (H_r.out _) ?_
      rintro e V3 ⟨rfl, hb⟩
      have CP : Hid _ := CelW.step CP.out hb
      have CQ : Hid _ := CelW.step CQ.out hb
      have HB : Hid _ := b_step HB.out hb
      clear hb
      go_wp2_with (fail)
      refine Calls.mono (H_s.out _) ?_
      rintro e V4 ⟨rfl, hb⟩
      have CP : Hid _ := CelW.step CP.out hb
      have CQ : Hid _ := CelW.step CQ.out hb
      have HB : Hid _ := b_step HB.out hb
      clear hb
      obtain ⟨x0, x1, x2⟩ : _ ∧ _ ∧ _ := ⟨(CP.out 0 _ rfl).1, (CP.out 1 _ rfl).1, (CP.out 2 _ rfl).1⟩
      obtain ⟨y0, y1, y2⟩ : _ ∧ _ ∧ _ := ⟨(CQ.out 0 _ rfl).1, (CQ.out 1 _ rfl).1, (CQ.out 2 _ rfl).1⟩
      obtain ⟨y0', y1', y2'⟩ : _ ∧ _ ∧ _ := ⟨c_after (n_after V4 (.cells #[.int .i64 ax1, .int .i64 ay1, .int .i64 az1] 26)) y0, c_after (n_after V4 (.cells #[.int .i64 ax1, .int .i64 ay1, .int .i64 az1] 26)) y1, c_after (n_after V4 (.cells #[.int .i64 ax1, .int .i64 ay1, .int .i64 az1] 26)) y2⟩
      have c9 := Cel.two V4 [.int .i64 ax1, .int .i64 ay1, .int .i64 az1] [.int .i64 bx1, .int .i64 by_1, .int .i64 bz1] 26 26
      have b9 : Below V4.heap.size V4 ((V4.alloc (.cells #[.int .i64 ax1, .int .i64 ay1, .int .i64 az1] 26)).alloc (.cells #[.int .i64 bx1, .int .i64 by_1, .int .i64 bz1] 26)) := b_step (n_after _ _) (n_after _ _)
      have HAP : Hid _ := napart_any [⟨ax1, ay1, az1⟩] [] [] [⟨bx1, by_1, bz1⟩] [] [] r1 s1 (.slice (some ⟨V4.heap.size, 0, none⟩) 1 1) (.slice none 0 0) (.slice none 0 0) (.slice (some ⟨V4.heap.size + 1, 0, none⟩) 1 1) (.slice none 0 0) (.slice none 0 0) _ (lies_one9 c9.1) (lies_nil9 _) (lies_nil9 _) (lies_one9 c9.2) (lies_nil9 _) (lies_nil9 _)
      have hm1 : mayP ⟨[⟨ax1, ay1, az1⟩], [], [], r1⟩ = true := may_ball (by dsimp only; omega) (by omega)
      have hm2 : mayP ⟨[⟨bx1, by_1, bz1⟩], [], [], s1⟩ = true := may_ball (by dsimp only; omega) (by omega)
      obtain ⟨g, hg1, hg0, hg2, hgl, hgu⟩ := ball_told ⟨ax1, ay1, az1⟩ ⟨bx1, by_1, bz1⟩ r1 s1 ((Pt.inB_iff _ _).2 (by unfold Pt.sub; dsimp only; omega))
      unfold apartV at HAP
      rw [hm1, hm2, hg1] at HAP
      simp only [Bool.and_self, if_true] at HAP
      unfold coreA at HAP
      have CP : Hid _ := CelW.step CP.out b9
      have CQ : Hid _ := CelW.step CQ.out b9
      have HB : Hid _ := b_step HB.out b9
      have HMN : Hid _ := fun w' => nminus_any ⟨bx1, by_1, bz1⟩ ⟨ax1, ay1, az1⟩ w' ((Pt.inB_iff _ _).2 (by dsimp only; omega)) ((Pt.inB_iff _ _).2 (by dsimp only; omega))
      have hDin : (Pt.sub ⟨bx1, by_1, bz1⟩ ⟨ax1, ay1, az1⟩).inB 8388607 = true := (Pt.inB_iff _ _).2 (by unfold Pt.sub; dsimp only; omega)
      have HDT : Hid _ := fun w' => nrdot_any (Pt.sub ⟨bx1, by_1, bz1⟩ ⟨ax1, ay1, az1⟩) (Pt.sub ⟨bx1, by_1, bz1⟩ ⟨ax1, ay1, az1⟩) w' (inB_mono hDin (by decide)) (inB_mono hDin (by decide))
      have hfar := (dot_inC hDin hDin (C := 281474976710656) (by decide)).2
      have hfar0 := dot_self (Pt.sub ⟨bx1, by_1, bz1⟩ ⟨ax1, ay1, az1⟩)
      generalize (told ⟨[⟨ax1, ay1, az1⟩], [], [], r1⟩ ⟨[⟨bx1, by_1, bz1⟩], [], [], s1⟩).1 = tt at *
      obtain ⟨tx, ty, tz⟩ := tt
      generalize Pt.dot (Pt.sub ⟨bx1, by_1, bz1⟩ ⟨ax1, ay1, az1⟩) (Pt.sub ⟨bx1, by_1, bz1⟩ ⟨ax1, ay1, az1⟩) = far at *
      generalize Pt.sub ⟨bx1, by_1, bz1⟩ ⟨ax1, ay1, az1⟩ = dd at *
      obtain ⟨dx, dy, dz⟩ := dd
      unfold Pt.v at HMN HDT
      dsimp only at HAP HMN HDT
      obtain ⟨gp, hgp⟩ : ∃ z, g - r1 - s1 = z := ⟨_, rfl⟩
      rw [hgp] at HAP
      clear hm1 hm2 hg1 hDin c9 b9
      go_wp2_with (fail)
      refine Calls.mono HAP.out ?_
      clear HAP x0 x1 x2 y0 y1 y2 y0' y1' y2'
      rintro e V5 ⟨rfl, hb⟩
      have CP : Hid _ := CelW.step CP.out hb
      have CQ : Hid _ := CelW.step CQ.out hb
      have HB : Hid _ := b_step HB.out hb
      clear hb
      go_upto_region 7 with fail
      obtain ⟨V6, hV6⟩ : ∃ V, V = V5.alloc (.cells #[.int .i64 tx, .int .i64 ty, .int .i64 tz, .int .i64 gp] 29) := ⟨_, rfl⟩
      obtain ⟨xb, hxb⟩ : ∃ b, b = V5.heap.size := ⟨_, rfl⟩
      have b9 : Below V5.heap.size V5 V6 := by rw [hV6]; exact n_after _ _
      have CX : Hid (Cel V6 xb [.int .i64 tx, .int .i64 ty, .int .i64 tz, .int .i64 gp]) := by show Cel _ _ _; rw [hV6, hxb]; exact Cel.new _ _ _
      rw [← hV6, ← hxb]
      have CP : Hid _ := CelW.step CP.out b9
      have CQ : Hid _ := CelW.step CQ.out b9
      have HB : Hid _ := b_step HB.out b9
      clear b9 hV6 hxb
      obtain ⟨x0, x1, x2⟩ : _ ∧ _ ∧ _ := ⟨(CP.out 0 _ rfl).1, (CP.out 1 _ rfl).1, (CP.out 2 _ rfl).1⟩
      obtain ⟨y0, y1, y2⟩ : _ ∧ _ ∧ _ := ⟨(CQ.out 0 _ rfl).1, (CQ.out 1 _ rfl).1, (CQ.out 2 _ rfl).1⟩
      go_wp2_with (fail)
      refine Calls.mono (HMN.out _) ?_
      rintro e V7 ⟨rfl, hb⟩
      have CX : Hid _ := Cel.step CX.out hb
      have HB : Hid _ := b_step HB.out hb
      clear hb x0 x1 x2 y0 y1 y2 CP CQ
      go_upto_region 8 with fail
      have b9 : Below V7.heap.size V7 (V7.alloc (.cells #[.int .i64 dx, .int .i64 dy, .int .i64 dz] 26)) := n_after _ _
      have CX : Hid _ := Cel.step CX.out b9
      have HB : Hid _ := b_step HB.out b9
      clear b9
      go_wp2_with (fail)
      refine Calls.mono (HDT.out _) ?_
      rintro e V8 ⟨rfl, hb⟩
      have CX : Hid _ := Cel.step CX.out hb
      have HB : Hid _ := b_step HB.out hb
      clear hb
      have x3 := CX.out 3 _ rfl
      have wg1 : IntKind.i64.wrap (gp + r1) = g - s1 := by rw [← hgp, IntKind.wrap_i64]; omega
      have wg2 : IntKind.i64.wrap (g - s1 + s1) = g := by rw [IntKind.wrap_i64]; omega
      have hgg := Int.mul_le_mul (show g ≤ 16777216 by omega) (show g ≤ 16777216 by omega) hg0 (by decide)
      have hgg0 := Int.mul_nonneg hg0 hg0
      obtain ⟨q2, hq2⟩ : ∃ z, g * g = z := ⟨_, rfl⟩
      rw [hq2] at hgg hgg0 hgl
      have wq : IntKind.i64.wrap (g * g) = q2 := by rw [hq2, IntKind.wrap_i64]; omega
      have hn1 : ¬ g < 0 := by omega
      have hn2 : ¬ far < q2 := by omega
      clear hq2 hgp
      have HGU : Hid (far ≤ wrap64 ((g + 2 + g / 65536) * (g + 2 + g / 65536))) := by
        show _ ≤ _
        have t1 := Int.mul_le_mul (show g + 2 + g / 65536 ≤ 33554432 by omega) (show g + 2 + g / 65536 ≤ 33554432 by omega) (by omega) (by decide)
        rw [w64 (by omega) (by omega)]
        exact hgu
      clear hgu
      go_wp2_with (fail)
      go_ret
      exact ⟨congrArg (fun b => Ending.returned (.bool b)) (decide_eq_true HGU.out), HB.out⟩

/-! ### The row's step, after the guide's template -/
set_option maxRecDepth 100000 in
theorem lifted (os : Os) (started : os.Started) (H : Type) (enc : TypeId × Value → H) :
    ReturnsInHanded {} Try.checked os 7 .any (Rows.narrowBallsSpec.pre6 enc Try.prog Try.f7 Rows.narrowBallsRow.domain false) (Rows.narrowBallsSpec.post enc Try.prog Try.f7 false true false false) := by
  refine returnsInHanded_of_change (C := Try.checked) own started (by kernel_rfl) Try.func7
    (ChangeSpec.witness6 (enc := enc) (C := Try.checked) false ⟨#[], #[.agg #[.int .i64 0, .int .i64 0, .int .i64 0], .agg #[.int .i64 0, .int .i64 0, .int .i64 0], .int .i64 0, .int .i64 0], []⟩ 8 (by kernel_rfl) (by kernel_rfl) (by kernel_rfl) (by kernel_rfl)) ?_
  intro W base args ds gs before hval0 hW hcnd _
  have hval : ∀ (j : Nat) t v, Try.f7.params[j]? = some t → args[j]? = some v → Value.okWide Try.prog W .any base t v := hval0
  have hW' := hW
  obtain ⟨p, q, hA0, hV, rfl, hfz, hnd⟩ := hW
  have hA : DataW.TrodAll enc Try.prog W 0 (fun _ => true) true Try.f7.params.toList args.toList ds p := hA0
  rw [Try.params7] at hA hval
  obtain ⟨v0, vs0, d0, ds0, p0, q0, hargs, rfl, rfl, h0, r0⟩ := trodAll_cons hA
  obtain ⟨v1, vs1, d1, ds1, p1, q1, rfl, rfl, rfl, h1, r1⟩ := trodAll_cons r0
  obtain ⟨v2, vs2, d2, ds2, p2, q2, rfl, rfl, rfl, h2, r2⟩ := trodAll_cons r1
  obtain ⟨v3, vs3, d3, ds3, p3, q3, rfl, rfl, rfl, h3, r3⟩ := trodAll_cons r2
  obtain ⟨rfl, rfl, rfl⟩ := trodAll_nil r3
  obtain rfl : args = #[v0, v1, v2, v3] := by cases args; simp_all
  obtain ⟨rfl, rfl⟩ := trodVars_none hV
  have k0 := h0
  have lt0 : ∀ x ∈ p0, x.block < W.heap.size := by obtain ⟨m, hm⟩ := k0; exact DataW.trod_lt m _ _ _ hm
  obtain ⟨tx0, ty0, tz0, rfl, _, _, nx0, ny0, nz0⟩ := open_point (hval 0 26 v0 rfl rfl) h0
  have btx0_ := bounds_i64 nx0
  have bty0_ := bounds_i64 ny0
  have btz0_ := bounds_i64 nz0
  have k1 := h1
  have lt1 : ∀ x ∈ p1, x.block < W.heap.size := by obtain ⟨m, hm⟩ := k1; exact DataW.trod_lt m _ _ _ hm
  obtain ⟨tx1, ty1, tz1, rfl, _, _, nx1, ny1, nz1⟩ := open_point (hval 1 26 v1 rfl rfl) h1
  have btx1_ := bounds_i64 nx1
  have bty1_ := bounds_i64 ny1
  have btz1_ := bounds_i64 nz1
  obtain ⟨a2, rfl, rfl, rfl, w2⟩ := open_int Try.underlying3 (hval 2 3 v2 rfl rfl) h2
  have b2 := bounds_i64 w2
  obtain ⟨a3, rfl, rfl, rfl, w3⟩ := open_int Try.underlying3 (hval 3 3 v3 rfl rfl) h3
  have b3 := bounds_i64 w3
  clear hA0 hval0
  refine (walk tx0 ty0 tz0 tx1 ty1 tz1 a2 a3 W (by omega) (by omega) (by omega) (by omega) (by omega) (by omega) (by omega) (by omega)).mono fun e W' ⟨he, bel⟩ => ?_
  subst he
  exact ⟨_, rfl, _, _, _, [], _, [], hW', trodAll_mk1 (shut_bool Try.underlying4 _), (trodAll_cons_mk (Below.trod laidOut (by kernel_rfl) (of_decide_eq_true (by kernel_rfl)) k0 bel lt0) (trodAll_cons_mk (Below.trod laidOut (by kernel_rfl) (of_decide_eq_true (by kernel_rfl)) k1 bel lt1) (trodAll_cons_mk (shut_int Try.underlying3 w2) (trodAll_cons_mk (shut_int Try.underlying3 w3) trodAll_mk0)))), rfl, bel.frame _, fun h => by cases h⟩

theorem over : Rows.narrowBallsRow.holds Try.pinned (OpenSpec.ofChange Rows.narrowBallsSpec) :=
  OpenClaim.holds_of_wide 7 Try.f7 rfl rfl rfl rfl rfl rfl rfl ⟨rfl, rfl, rfl, rfl, rfl⟩ rfl rfl rfl rfl rfl (by kernel_rfl) Try.func7 (by kernel_rfl)
    (of_decide_eq_true (by kernel_rfl)) (by unfold Func.isWrapper; first | (rw [if_pos (by decide +kernel)]; kernel_rfl) | (rw [if_neg (by decide +kernel)]; exact ⟨rfl, rfl⟩))
    (fun os started H enc _ => lifted os started H enc)

end narrowBalls

theorem narrowBalls_holds : Rows.NarrowBallsSaid := narrowBalls.over
#print axioms narrowBalls_holds
end Go.Proofs.Ythcdpngkoejgpaa
