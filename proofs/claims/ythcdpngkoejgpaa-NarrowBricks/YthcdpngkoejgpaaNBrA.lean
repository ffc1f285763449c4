/- Chapter 9's bricks: their half edges, and how far a number is from nought. -/
import Derived.Test.YthcdpngkoejgpaaNrK
namespace Go.Proofs.Ythcdpngkoejgpaa
open Go.RowKit Go.Shelf
set_option linter.unusedVariables false

set_option maxHeartbeats 1000000 in
theorem size_any (n : Int) (w : World) (h : -9223372036854775808 < n ∧ n ≤ 9223372036854775807) : Calls Try.prog 24 #[.int .i64 n] w fun e W => e = .returned (.int .i64 (max n (-n))) ∧ Below w.heap.size w W := by
  have hw : IntKind.i64.wrap (-n) = -n := by rw [IntKind.wrap_i64]; omega
  obtain ⟨v, hv⟩ : ∃ v, max n (-n) = v := ⟨_, rfl⟩
  rw [hv]
  have hm : (if n < -n then -n else n) = v := by split <;> omega
  have hm2 : (if -n > n then -n else n) = v := by split <;> omega
  clear hv h
  go_enter Try.func24, Try.ntmps24
  go_wp2_with (fail)
  go_ret
  exact ⟨rfl, Below.refl _ _⟩
set_option maxHeartbeats 4000000 in
set_option maxRecDepth 100000 in
theorem brright_any (px py pz : Int) (w0 : World) (h_px : -9223372036854775808 ≤ px ∧ px ≤ 9223372036854775807) (h_py : -9223372036854775808 ≤ py ∧ py ≤ 9223372036854775807) (h_pz : -9223372036854775808 ≤ pz ∧ pz ≤ 9223372036854775807) :
    Calls Try.prog 22 #[.agg #[.int .i64 px, .int .i64 py, .int .i64 pz]] w0 fun e w' => e = .returned (.agg #[.int .i64 (1 + pickY px 1000), .int .i64 (1 + pickY py 1000), .int .i64 (1 + pickY pz 1000)]) ∧ Below w0.heap.size w0 w' := by
  have H_ax : Hid _ := fun w' => npick_below px 1000 w' h_px (by decide) (by decide)
  have l_ax := pickY_lo px (n := 1000) (by decide)
  have u_ax := pickY_hi px (n := 1000) (by decide)
  have H_ay : Hid _ := fun w' => npick_below py 1000 w' h_py (by decide) (by decide)
  have l_ay := pickY_lo py (n := 1000) (by decide)
  have u_ay := pickY_hi py (n := 1000) (by decide)
  have H_az : Hid _ := fun w' => npick_below pz 1000 w' h_pz (by decide) (by decide)
  have l_az := pickY_lo pz (n := 1000) (by decide)
  have u_az := pickY_hi pz (n := 1000) (by decide)
  generalize pickY px 1000 = ax at *
  generalize pickY py 1000 = ay at *
  generalize pickY pz 1000 = az at *
  clear h_px
  clear h_py
  clear h_pz
  obtain ⟨ax1, e_ax⟩ : ∃ z, 1 + ax = z := ⟨_, rfl⟩
  have w_ax : IntKind.i64.wrap (1 + ax) = ax1 := by rw [e_ax, IntKind.wrap_i64]; omega
  rw [e_ax]
  clear e_ax l_ax u_ax
  obtain ⟨ay1, e_ay⟩ : ∃ z, 1 + ay = z := ⟨_, rfl⟩
  have w_ay : IntKind.i64.wrap (1 + ay) = ay1 := by rw [e_ay, IntKind.wrap_i64]; omega
  rw [e_ay]
  clear e_ay l_ay u_ay
  obtain ⟨az1, e_az⟩ : ∃ z, 1 + az = z := ⟨_, rfl⟩
  have w_az : IntKind.i64.wrap (1 + az) = az1 := by rw [e_az, IntKind.wrap_i64]; omega
  rw [e_az]
  clear e_az l_az u_az
  obtain ⟨W1, hW1⟩ : ∃ V, V = (w0.alloc (.cells #[.int .i64 px, .int .i64 py, .int .i64 pz] 26)).alloc (.cells #[.int .i64 0, .int .i64 0, .int .i64 0] 26) := ⟨_, rfl⟩
  have c9 : Hid (CelW W1 w0.heap.size [.int .i64 px, .int .i64 py, .int .i64 pz] ∧ CelW W1 (w0.heap.size + 1) [.int .i64 0, .int .i64 0, .int .i64 0]) := by
    show _ ∧ _
    rw [hW1]
    refine ⟨(CelW.new w0 [.int .i64 px, .int .i64 py, .int .i64 pz] 26).step (n_after _ _), ?_⟩
    have h := CelW.new (w0.alloc (.cells #[.int .i64 px, .int .i64 py, .int .i64 pz] 26)) [.int .i64 0, .int .i64 0, .int .i64 0] 26
    rw [World.size_alloc] at h
    exact h
  have HB : Hid (Below w0.heap.size w0 W1) := by show Below _ _ _; rw [hW1]; exact b_step (n_after _ _) (n_after _ _)
  obtain ⟨pb, hpb⟩ : ∃ b, b = w0.heap.size := ⟨_, rfl⟩
  obtain ⟨rb, hrb⟩ : ∃ b, b = w0.heap.size + 1 := ⟨_, rfl⟩
  rw [← hrb, ← hpb] at c9
  have hpw : w0.heap.size ≤ rb := by omega
  go_enter Try.func22, Try.ntmps22
  go_upto_region 1 with fail
  rw [← hW1, ← hrb, ← hpb]
  clear hW1 hrb hpb
  have CP : Hid _ := c9.out.1
  have CR : Hid _ := c9.out.2
  clear c9
  have x0 := (CP.out 0 _ rfl).1
  have cz0 := (CR.out 0 _ rfl).1
  have cf0 := (CR.out 0 _ rfl).2
  have x1 := (CP.out 1 _ rfl).1
  have cz1 := (CR.out 1 _ rfl).1
  have cf1 := (CR.out 1 _ rfl).2
  have x2 := (CP.out 2 _ rfl).1
  have cz2 := (CR.out 2 _ rfl).1
  have cf2 := (CR.out 2 _ rfl).2
  go_cut [] from 3 to 15 (fun wx => ∃ w8 : World, wx = ((w8.setCell ⟨rb, 0, none⟩ (.int .i64 ax1)).setCell ⟨rb, 1, none⟩ (.int .i64 ay1)).setCell ⟨rb, 2, none⟩ (.int .i64 az1) ∧ Hid (Below W1.heap.size W1 w8))
  case first =>
    clear CP CR HB
    refine RV.region_by (fun j v w => match j with | 0 => v = .pointer (some ⟨pb, 0, none⟩) | 1 => v = .int .i64 (px) | 2 => v = .int .i64 (ax) | 3 => v = .int .i64 (ax1) | 4 => v = .pointer (some ⟨pb, 1, none⟩) | 5 => v = .int .i64 (py) | 6 => v = .int .i64 (ay) | 7 => v = .int .i64 (ay1) | 8 => v = .pointer (some ⟨pb, 2, none⟩) | 9 => v = .int .i64 (pz) | 10 => v = .int .i64 (az) | 11 => v = .int .i64 (az1) | 12 => v = .agg #[.int .i64 (ax1), .int .i64 (ay1), .int .i64 (az1)] | 13 => True | _ => True) (fun γ L w9 => (L 13 = false ∧ Below W1.heap.size W1 w9) ∨ (L 13 = true ∧ ∃ w, Below W1.heap.size W1 w ∧ w9 = (((w.setCell ⟨rb, 0, none⟩ (.int .i64 (ax1))).setCell ⟨rb, 1, none⟩ (.int .i64 (ay1))).setCell ⟨rb, 2, none⟩ (.int .i64 (az1))))) (by kernel_rfl) (by kernel_rfl) (by kernel_rfl) (by kernel_rfl) ?_ ?_ ?_
    · exact Or.inl ⟨rfl, (Below.refl _ W1).drew⟩
    · generalize hD : dstOf _ = D
      generalize hWA : waitsFor _ = WA
      generalize hZ : Act.mk _ _ = Z
      obtain ⟨R, hR⟩ : ∃ R : Nat → Value → World → Prop, R = (fun j v w => match j with | 0 => v = .pointer (some ⟨pb, 0, none⟩) | 1 => v = .int .i64 (px) | 2 => v = .int .i64 (ax) | 3 => v = .int .i64 (ax1) | 4 => v = .pointer (some ⟨pb, 1, none⟩) | 5 => v = .int .i64 (py) | 6 => v = .int .i64 (ay) | 7 => v = .int .i64 (ay1) | 8 => v = .pointer (some ⟨pb, 2, none⟩) | 9 => v = .int .i64 (pz) | 10 => v = .int .i64 (az) | 11 => v = .int .i64 (az1) | 12 => v = .agg #[.int .i64 (ax1), .int .i64 (ay1), .int .i64 (az1)] | 13 => True | _ => True) := ⟨_, rfl⟩
      rw [← hR]
      have d0 : D 0 = some 3 := by rw [← hD]; rfl
      have d1 : D 1 = some 4 := by rw [← hD]; rfl
      have d2 : D 2 = some 5 := by rw [← hD]; rfl
      have d3 : D 3 = some 6 := by rw [← hD]; rfl
      have d4 : D 4 = some 7 := by rw [← hD]; rfl
      have d5 : D 5 = some 8 := by rw [← hD]; rfl
      have d6 : D 6 = some 9 := by rw [← hD]; rfl
      have d7 : D 7 = some 10 := by rw [← hD]; rfl
      have d8 : D 8 = some 11 := by rw [← hD]; rfl
      have d9 : D 9 = some 12 := by rw [← hD]; rfl
      have d10 : D 10 = some 13 := by rw [← hD]; rfl
      have d11 : D 11 = some 14 := by rw [← hD]; rfl
      have d12 : D 12 = some 15 := by rw [← hD]; rfl
      have r0 : ∀ v w, R 0 v w = (v = .pointer (some ⟨pb, 0, none⟩)) := fun v w => by rw [hR]; rfl
      have r1 : ∀ v w, R 1 v w = (v = .int .i64 (px)) := fun v w => by rw [hR]; rfl
      have r2 : ∀ v w, R 2 v w = (v = .int .i64 (ax)) := fun v w => by rw [hR]; rfl
      have r3 : ∀ v w, R 3 v w = (v = .int .i64 (ax1)) := fun v w => by rw [hR]; rfl
      have r4 : ∀ v w, R 4 v w = (v = .pointer (some ⟨pb, 1, none⟩)) := fun v w => by rw [hR]; rfl
      have r5 : ∀ v w, R 5 v w = (v = .int .i64 (py)) := fun v w => by rw [hR]; rfl
      have r6 : ∀ v w, R 6 v w = (v = .int .i64 (ay)) := fun v w => by rw [hR]; rfl
      have r7 : ∀ v w, R 7 v w = (v = .int .i64 (ay1)) := fun v w => by rw [hR]; rfl
      have r8 : ∀ v w, R 8 v w = (v = .pointer (some ⟨pb, 2, none⟩)) := fun v w => by rw [hR]; rfl
      have r9 : ∀ v w, R 9 v w = (v = .int .i64 (pz)) := fun v w => by rw [hR]; rfl
      have r10 : ∀ v w, R 10 v w = (v = .int .i64 (az)) := fun v w => by rw [hR]; rfl
      have r11 : ∀ v w, R 11 v w = (v = .int .i64 (az1)) := fun v w => by rw [hR]; rfl
      have r12 : ∀ v w, R 12 v w = (v = .agg #[.int .i64 (ax1), .int .i64 (ay1), .int .i64 (az1)]) := fun v w => by rw [hR]; rfl
      have r13 : ∀ v w, R 13 v w = (True) := fun v w => by rw [hR]; rfl
      have E1 : ∀ (γ : Nat → Value) (L : Nat → Bool) (a : Act) (w : World), RV.Held D WA R (fun γ L w9 => (L 13 = false ∧ Below W1.heap.size W1 w9) ∨ (L 13 = true ∧ ∃ w, Below W1.heap.size W1 w ∧ w9 = (((w.setCell ⟨rb, 0, none⟩ (.int .i64 (ax1))).setCell ⟨rb, 1, none⟩ (.int .i64 (ay1))).setCell ⟨rb, 2, none⟩ (.int .i64 (az1))))) Z γ L a w → a.tmps[1]? = some (.pointer (some ⟨pb, 0, none⟩)) := fun γ L a w hH => (hH.rest 1 (by rw [← hD]; exact RV.dst_free (by kernel_rfl))).trans (by rw [← hZ]; rfl)
      have E2 : ∀ (γ : Nat → Value) (L : Nat → Bool) (a : Act) (w : World), RV.Held D WA R (fun γ L w9 => (L 13 = false ∧ Below W1.heap.size W1 w9) ∨ (L 13 = true ∧ ∃ w, Below W1.heap.size W1 w ∧ w9 = (((w.setCell ⟨rb, 0, none⟩ (.int .i64 (ax1))).setCell ⟨rb, 1, none⟩ (.int .i64 (ay1))).setCell ⟨rb, 2, none⟩ (.int .i64 (az1))))) Z γ L a w → a.tmps[2]? = some (.pointer (some ⟨rb, 0, none⟩)) := fun γ L a w hH => (hH.rest 2 (by rw [← hD]; exact RV.dst_free (by kernel_rfl))).trans (by rw [← hZ]; rfl)
      have K : ∀ j v w w', R j v w → R j v w' := by rw [hR]; intro j v w w' h; exact h
      have A_13_1 : WA 13 1 := by rw [← hWA]; exact ⟨_, rfl, ⟨1, .phase⟩, by simp, rfl, rfl⟩
      have A_13_2 : WA 13 2 := by rw [← hWA]; exact ⟨_, rfl, ⟨2, .phase⟩, by simp, rfl, rfl⟩
      have A_13_5 : WA 13 5 := by rw [← hWA]; exact ⟨_, rfl, ⟨5, .phase⟩, by simp, rfl, rfl⟩
      have A_13_6 : WA 13 6 := by rw [← hWA]; exact ⟨_, rfl, ⟨6, .phase⟩, by simp, rfl, rfl⟩
      have A_13_9 : WA 13 9 := by rw [← hWA]; exact ⟨_, rfl, ⟨9, .phase⟩, by simp, rfl, rfl⟩
      have A_13_10 : WA 13 10 := by rw [← hWA]; exact ⟨_, rfl, ⟨10, .phase⟩, by simp, rfl, rfl⟩
      clear hD hWA hZ hR
      refine RV.AllDo.cons 0 (RV.does_pure (fun γ v L w hl h => by rw [RV.more_ne (L := L) (i := 0) (j := 13) (by decide)]; exact h) (fun γ L a w hH hl hA => by have e0 := E1 γ L a w hH; exact ⟨.pointer (some ⟨pb, 0, none⟩), by simp [execOp, go_sem, e0], (r0 _ _).mpr rfl⟩)) ?_
      refine RV.AllDo.cons 1 (RV.does_pure (fun γ v L w hl h => by rw [RV.more_ne (L := L) (i := 1) (j := 13) (by decide)]; exact h) (fun γ L a w hH hl hA => by have l0 : L 0 = true := hA ⟨0, .data⟩ (by simp) rfl; have e0 := hH.slot 0 3 d0 l0; have g0 := hH.holds 0 l0; rw [r0] at g0; rw [g0] at e0; have hB9 := early9 hH.glob (RV.not_yet hH A_13_1 hl); have z0 := c_after hB9 x0; exact ⟨.int .i64 (px), by simp [execOp, go_sem, e0, z0], (r1 _ _).mpr rfl⟩)) ?_
      refine RV.AllDo.cons 2 (RV.does_call (fun γ L a w hH hl hA => by have l0 : L 1 = true := hA ⟨1, .data⟩ (by simp) rfl; have e0 := hH.slot 1 4 d1 l0; have g0 := hH.holds 1 l0; rw [r1] at g0; rw [g0] at e0; have hB9 := early9 hH.glob (RV.not_yet hH A_13_2 hl); exact ⟨18, #[.int .i64 (px), .int .i64 (1000)], by simp [go_sem, e0], Calls.mono (H_ax.out w) (by rintro e w2 ⟨rfl, hb⟩; exact ⟨_, rfl, (r2 _ _).mpr rfl, fun j v _ h => K j v _ _ h, Or.inl ⟨by rw [RV.more_ne (L := L) (i := 2) (j := 13) (by decide)]; exact RV.not_yet hH A_13_2 hl, hB9.trans (hb.mono hB9.size)⟩⟩)⟩)) ?_
      refine RV.AllDo.cons 3 (RV.does_pure (fun γ v L w hl h => by rw [RV.more_ne (L := L) (i := 3) (j := 13) (by decide)]; exact h) (fun γ L a w hH hl hA => by have l0 : L 2 = true := hA ⟨2, .data⟩ (by simp) rfl; have e0 := hH.slot 2 5 d2 l0; have g0 := hH.holds 2 l0; rw [r2] at g0; rw [g0] at e0; exact ⟨.int .i64 (ax1), by simp [execOp, go_sem, e0, w_ax], (r3 _ _).mpr rfl⟩)) ?_
      refine RV.AllDo.cons 4 (RV.does_pure (fun γ v L w hl h => by rw [RV.more_ne (L := L) (i := 4) (j := 13) (by decide)]; exact h) (fun γ L a w hH hl hA => by have e0 := E1 γ L a w hH; exact ⟨.pointer (some ⟨pb, 1, none⟩), by simp [execOp, go_sem, e0], (r4 _ _).mpr rfl⟩)) ?_
      refine RV.AllDo.cons 5 (RV.does_pure (fun γ v L w hl h => by rw [RV.more_ne (L := L) (i := 5) (j := 13) (by decide)]; exact h) (fun γ L a w hH hl hA => by have l0 : L 4 = true := hA ⟨4, .data⟩ (by simp) rfl; have e0 := hH.slot 4 7 d4 l0; have g0 := hH.holds 4 l0; rw [r4] at g0; rw [g0] at e0; have hB9 := early9 hH.glob (RV.not_yet hH A_13_5 hl); have z0 := c_after hB9 x1; exact ⟨.int .i64 (py), by simp [execOp, go_sem, e0, z0], (r5 _ _).mpr rfl⟩)) ?_
      refine RV.AllDo.cons 6 (RV.does_call (fun γ L a w hH hl hA => by have l0 : L 5 = true := hA ⟨5, .data⟩ (by simp) rfl; have e0 := hH.slot 5 8 d5 l0; have g0 := hH.holds 5 l0; rw [r5] at g0; rw [g0] at e0; have hB9 := early9 hH.glob (RV.not_yet hH A_13_6 hl); exact ⟨18, #[.int .i64 (py), .int .i64 (1000)], by simp [go_sem, e0], Calls.mono (H_ay.out w) (by rintro e w2 ⟨rfl, hb⟩; exact ⟨_, rfl, (r6 _ _).mpr rfl, fun j v _ h => K j v _ _ h, Or.inl ⟨by rw [RV.more_ne (L := L) (i := 6) (j := 13) (by decide)]; exact RV.not_yet hH A_13_6 hl, hB9.trans (hb.mono hB9.size)⟩⟩)⟩)) ?_
      refine RV.AllDo.cons 7 (RV.does_pure (fun γ v L w hl h => by rw [RV.more_ne (L := L) (i := 7) (j := 13) (by decide)]; exact h) (fun γ L a w hH hl hA => by have l0 : L 6 = true := hA ⟨6, .data⟩ (by simp) rfl; have e0 := hH.slot 6 9 d6 l0; have g0 := hH.holds 6 l0; rw [r6] at g0; rw [g0] at e0; exact ⟨.int .i64 (ay1), by simp [execOp, go_sem, e0, w_ay], (r7 _ _).mpr rfl⟩)) ?_
      refine RV.AllDo.cons 8 (RV.does_pure (fun γ v L w hl h => by rw [RV.more_ne (L := L) (i := 8) (j := 13) (by decide)]; exact h) (fun γ L a w hH hl hA => by have e0 := E1 γ L a w hH; exact ⟨.pointer (some ⟨pb, 2, none⟩), by simp [execOp, go_sem, e0], (r8 _ _).mpr rfl⟩)) ?_
      refine RV.AllDo.cons 9 (RV.does_pure (fun γ v L w hl h => by rw [RV.more_ne (L := L) (i := 9) (j := 13) (by decide)]; exact h) (fun γ L a w hH hl hA => by have l0 : L 8 = true := hA ⟨8, .data⟩ (by simp) rfl; have e0 := hH.slot 8 11 d8 l0; have g0 := hH.holds 8 l0; rw [r8] at g0; rw [g0] at e0; have hB9 := early9 hH.glob (RV.not_yet hH A_13_9 hl); have z0 := c_after hB9 x2; exact ⟨.int .i64 (pz), by simp [execOp, go_sem, e0, z0], (r9 _ _).mpr rfl⟩)) ?_
      refine RV.AllDo.cons 10 (RV.does_call (fun γ L a w hH hl hA => by have l0 : L 9 = true := hA ⟨9, .data⟩ (by simp) rfl; have e0 := hH.slot 9 12 d9 l0; have g0 := hH.holds 9 l0; rw [r9] at g0; rw [g0] at e0; have hB9 := early9 hH.glob (RV.not_yet hH A_13_10 hl); exact ⟨18, #[.int .i64 (pz), .int .i64 (1000)], by simp [go_sem, e0], Calls.mono (H_az.out w) (by rintro e w2 ⟨rfl, hb⟩; exact ⟨_, rfl, (r10 _ _).mpr rfl, fun j v _ h => K j v _ _ h, Or.inl ⟨by rw [RV.more_ne (L := L) (i := 10) (j := 13) (by decide)]; exact RV.not_yet hH A_13_10 hl, hB9.trans (hb.mono hB9.size)⟩⟩)⟩)) ?_
      refine RV.AllDo.cons 11 (RV.does_pure (fun γ v L w hl h => by rw [RV.more_ne (L := L) (i := 11) (j := 13) (by decide)]; exact h) (fun γ L a w hH hl hA => by have l0 : L 10 = true := hA ⟨10, .data⟩ (by simp) rfl; have e0 := hH.slot 10 13 d10 l0; have g0 := hH.holds 10 l0; rw [r10] at g0; rw [g0] at e0; exact ⟨.int .i64 (az1), by simp [execOp, go_sem, e0, w_az], (r11 _ _).mpr rfl⟩)) ?_
      refine RV.AllDo.cons 12 (RV.does_pure (fun γ v L w hl h => by rw [RV.more_ne (L := L) (i := 12) (j := 13) (by decide)]; exact h) (fun γ L a w hH hl hA => by have l0 : L 3 = true := hA ⟨3, .data⟩ (by simp) rfl; have e0 := hH.slot 3 6 d3 l0; have g0 := hH.holds 3 l0; rw [r3] at g0; rw [g0] at e0; have l1 : L 7 = true := hA ⟨7, .data⟩ (by simp) rfl; have e1 := hH.slot 7 10 d7 l1; have g1 := hH.holds 7 l1; rw [r7] at g1; rw [g1] at e1; have l2 : L 11 = true := hA ⟨11, .data⟩ (by simp) rfl; have e2 := hH.slot 11 14 d11 l2; have g2 := hH.holds 11 l2; rw [r11] at g2; rw [g2] at e2; exact ⟨.agg #[.int .i64 (ax1), .int .i64 (ay1), .int .i64 (az1)], by simp [execOp, go_sem, e0, e1, e2], (r12 _ _).mpr rfl⟩)) ?_
      refine RV.AllDo.cons 13 (RV.does_store (fun γ L a w hH hl hA => by have e0 := E2 γ L a w hH; have l1 : L 12 = true := hA ⟨12, .data⟩ (by simp) rfl; have e1 := hH.slot 12 15 d12 l1; have g1 := hH.holds 12 l1; rw [r12] at g1; rw [g1] at e1; have hB9 := early9 hH.glob hl; have z0 := c_after hB9 cz0; have zf0 := f_after hB9 cz0 cf0; have z1 := c_after hB9 cz1; have zf1 := f_after hB9 cz1 cf1; have z2 := c_after hB9 cz2; have zf2 := f_after hB9 cz2 cf2; exact ⟨(((w.setCell ⟨rb, 0, none⟩ (.int .i64 (ax1))).setCell ⟨rb, 1, none⟩ (.int .i64 (ay1))).setCell ⟨rb, 2, none⟩ (.int .i64 (az1))), by simp [execOp, go_sem, e0, e1, z0, zf0, z1, zf1, z2, zf2], (r13 _ _).mpr trivial, fun j v _ h => K j v _ _ h, Or.inr ⟨RV.more_self, w, hB9, rfl⟩⟩)) ?_
      exact RV.AllDo.nil
    · intro γ a5 w5 L9 hL hLo hH
      have ha := RV.held_act hH hL (by kernel_rfl) (by kernel_rfl)
      obtain ⟨w8, hb8, rfl⟩ := late9 hH.glob (hL 13 (by decide))
      have y0 : γ 0 = .pointer (some ⟨pb, 0, none⟩) := hH.holds 0 (hL 0 (by decide))
      have y1 : γ 1 = .int .i64 (px) := hH.holds 1 (hL 1 (by decide))
      have y2 : γ 2 = .int .i64 (ax) := hH.holds 2 (hL 2 (by decide))
      have y3 : γ 3 = .int .i64 (ax1) := hH.holds 3 (hL 3 (by decide))
      have y4 : γ 4 = .pointer (some ⟨pb, 1, none⟩) := hH.holds 4 (hL 4 (by decide))
      have y5 : γ 5 = .int .i64 (py) := hH.holds 5 (hL 5 (by decide))
      have y6 : γ 6 = .int .i64 (ay) := hH.holds 6 (hL 6 (by decide))
      have y7 : γ 7 = .int .i64 (ay1) := hH.holds 7 (hL 7 (by decide))
      have y8 : γ 8 = .pointer (some ⟨pb, 2, none⟩) := hH.holds 8 (hL 8 (by decide))
      have y9 : γ 9 = .int .i64 (pz) := hH.holds 9 (hL 9 (by decide))
      have y10 : γ 10 = .int .i64 (az) := hH.holds 10 (hL 10 (by decide))
      have y11 : γ 11 = .int .i64 (az1) := hH.holds 11 (hL 11 (by decide))
      have y12 : γ 12 = .agg #[.int .i64 (ax1), .int .i64 (ay1), .int .i64 (az1)] := hH.holds 12 (hL 12 (by decide))
      rw [ha]
      clear ha hH hL hLo
      simp only [RV.putAll, Act.put, List.setIfInBounds_toArray, List.set_cons_zero, List.set_cons_succ, Nat.zero_add, Nat.reduceAdd, y0, y1, y2, y3, y4, y5, y6, y7, y8, y9, y10, y11, y12]
      clear y0 y1 y2 y3 y4 y5 y6 y7 y8 y9 y10 y11 y12
      have HZ : Hid _ := hb8
      go_wp2_with (fail)
      go_meet
      case rel => exact ⟨w8, rfl, HZ⟩
  case rest =>
    obtain ⟨w8, hw8, HZ⟩ := hcut
    have CR : Hid (CelW wc rb [.int .i64 ax1, .int .i64 ay1, .int .i64 az1]) := by show CelW _ _ _; rw [hw8]; exact (((CelW.step CR.out HZ.out).set 0 (.int .i64 ax1) (by simp)).set 1 (.int .i64 ay1) (by simp)).set 2 (.int .i64 az1) (by simp)
    have HB : Hid (Below w0.heap.size w0 wc) := by show Below _ _ _; rw [hw8]; exact (((b_step HB.out HZ.out).setCell hpw _).setCell hpw _).setCell hpw _
    clear hw8 HZ x0 x1 x2 cz0 cz1 cz2 cf0 cf1 cf2 w8 CP
    have d0 := (CR.out 0 _ rfl).1
    have d1 := (CR.out 1 _ rfl).1
    have d2 := (CR.out 2 _ rfl).1
    go_wp2_with (fail)
    exact bodyPost_ret (v := .agg #[.int .i64 ax1, .int .i64 ay1, .int .i64 az1]) (by simp [results, Try.results22, go_sem, d0, d1, d2]) rfl ⟨rfl, HB.out⟩
end Go.Proofs.Ythcdpngkoejgpaa
