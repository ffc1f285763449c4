/- A box's inertia. -/
import Derived.Test.YtiicpdlaaklahaaShN
namespace Go.Proofs.Ytiicpdlaaklahaa
open Go.RowKit Go.Shelf Fx
set_option linter.unusedVariables false

/-- What is carried: the flag is down, and stays so. -/
structure Up (W : World) (b : Nat) : Prop where
  c : W.cell? ⟨b, 0, none⟩ = some (.bool false)
  f : W.frozen? ⟨b, 0, none⟩ = false
theorem Up.step {A B : World} {b : Nat} (h : Up A b) (hb : Below A.heap.size A B) : Up B b := ⟨c_after hb h.c, f_after hb h.c h.f⟩
set_option maxHeartbeats 1000000 in
set_option maxRecDepth 100000 in
theorem third_any (bw b : Nat) (m n : Int) (w0 : World) (hu : Up w0 b) (hp : w0.cell? ⟨bw, 0, none⟩ = some (.pointer (some ⟨b, 0, none⟩))) (h0 : 0 ≤ m) (h1 : m ≤ 1125899906842624) (k0 : 0 ≤ n) (k1 : n ≤ 1125899906842624) :
    Calls Try.prog 72 #[.int .i64 m, .int .i64 n, .pointer (some ⟨bw, 0, none⟩)] w0 fun e W => e = .returned (.int .i64 ((m + n) / 3)) ∧ Below w0.heap.size w0 W := by
  have A1 : Hid (∀ w', Below w0.heap.size w0 w' → Calls Try.prog 73 #[.pointer (some ⟨b, 0, none⟩), .int .i64 m, .int .i64 n] w' fun e W' => e = .returned (.int .i64 (m + n)) ∧ Below w'.heap.size w' W') := fun w' hb => add_ok b m n _ w' (hu.step hb).c (hu.step hb).f (add_box h0 h1 k0 k1)
  have A2 : Hid (∀ w', Below w0.heap.size w0 w' → Calls Try.prog 70 #[.pointer (some ⟨b, 0, none⟩), .int .i64 (m + n), .int .i64 1, .int .i64 3] w' fun e W' => e = .returned (.int .i64 ((m + n) / 3)) ∧ Below w'.heap.size w' W') := fun w' hb => ratio_ok b (m + n) 1 3 _ w' (hu.step hb).c (hu.step hb).f (ratio_box (by omega) (by omega))
  generalize (m + n) / 3 = q at *
  generalize m + n = s at *
  clear h0 h1 k0 k1 hu
  go_enter Try.func72, Try.ntmps72
  go_wp2_with (fail)
  refine RV.region_by (fun j v w => match j with | 0 => v = .pointer (some ⟨b, 0, none⟩) | 1 => v = .pointer (some ⟨b, 0, none⟩) | 2 => v = .int .i64 (m) | 3 => v = .int .i64 (n) | 4 => v = .int .i64 (s) | 5 => v = .int .i64 (q) | 6 => v = .int .i64 (q) | _ => True) (fun γ L w9 => Below w0.heap.size w0 w9) (by kernel_rfl) (by kernel_rfl) (by kernel_rfl) (by kernel_rfl) ?_ ?_ ?_
  · exact (Below.refl _ w0).drew
  · generalize hD : dstOf _ = D
    generalize hWA : waitsFor _ = WA
    generalize hZ : Act.mk _ _ = Z
    obtain ⟨R, hR⟩ : ∃ R : Nat → Value → World → Prop, R = (fun j v w => match j with | 0 => v = .pointer (some ⟨b, 0, none⟩) | 1 => v = .pointer (some ⟨b, 0, none⟩) | 2 => v = .int .i64 (m) | 3 => v = .int .i64 (n) | 4 => v = .int .i64 (s) | 5 => v = .int .i64 (q) | 6 => v = .int .i64 (q) | _ => True) := ⟨_, rfl⟩
    rw [← hR]
    have d0 : D 0 = some 6 := by rw [← hD]; rfl
    have d1 : D 1 = some 7 := by rw [← hD]; rfl
    have d2 : D 2 = some 8 := by rw [← hD]; rfl
    have d3 : D 3 = some 9 := by rw [← hD]; rfl
    have d4 : D 4 = some 10 := by rw [← hD]; rfl
    have d5 : D 5 = some 11 := by rw [← hD]; rfl
    have d6 : D 6 = some 5 := by rw [← hD]; rfl
    have r0 : ∀ v w, R 0 v w = (v = .pointer (some ⟨b, 0, none⟩)) := fun v w => by rw [hR]; rfl
    have r1 : ∀ v w, R 1 v w = (v = .pointer (some ⟨b, 0, none⟩)) := fun v w => by rw [hR]; rfl
    have r2 : ∀ v w, R 2 v w = (v = .int .i64 (m)) := fun v w => by rw [hR]; rfl
    have r3 : ∀ v w, R 3 v w = (v = .int .i64 (n)) := fun v w => by rw [hR]; rfl
    have r4 : ∀ v w, R 4 v w = (v = .int .i64 (s)) := fun v w => by rw [hR]; rfl
    have r5 : ∀ v w, R 5 v w = (v = .int .i64 (q)) := fun v w => by rw [hR]; rfl
    have r6 : ∀ v w, R 6 v w = (v = .int .i64 (q)) := fun v w => by rw [hR]; rfl
    have E0 : ∀ (γ : Nat → Value) (L : Nat → Bool) (a : Act) (w : World), RV.Held D WA R (fun γ L w9 => Below w0.heap.size w0 w9) Z γ L a w → a.tmps[0]? = some (.int .i64 (m)) := fun γ L a w hH => (hH.rest 0 (by rw [← hD]; exact RV.dst_free (by kernel_rfl))).trans (by rw [← hZ]; rfl)
    have E1 : ∀ (γ : Nat → Value) (L : Nat → Bool) (a : Act) (w : World), RV.Held D WA R (fun γ L w9 => Below w0.heap.size w0 w9) Z γ L a w → a.tmps[1]? = some (.int .i64 (n)) := fun γ L a w hH => (hH.rest 1 (by rw [← hD]; exact RV.dst_free (by kernel_rfl))).trans (by rw [← hZ]; rfl)
    have E2 : ∀ (γ : Nat → Value) (L : Nat → Bool) (a : Act) (w : World), RV.Held D WA R (fun γ L w9 => Below w0.heap.size w0 w9) Z γ L a w → a.tmps[2]? = some (.pointer (some ⟨bw, 0, none⟩)) := fun γ L a w hH => (hH.rest 2 (by rw [← hD]; exact RV.dst_free (by kernel_rfl))).trans (by rw [← hZ]; rfl)
    have K : ∀ j v w w', R j v w → R j v w' := by rw [hR]; intro j v w w' h; exact h
    clear hD hWA hZ hR
    refine RV.AllDo.cons 0 (RV.does_pure (fun γ v L w hl h => h) (fun γ L a w hH hl hA => by have e0 := E2 γ L a w hH; have hB9 := hH.glob; have z0 := c_after hB9 hp; exact ⟨.pointer (some ⟨b, 0, none⟩), by simp [execOp, go_sem, e0, z0], (r0 _ _).mpr rfl⟩)) ?_
    refine RV.AllDo.cons 1 (RV.does_pure (fun γ v L w hl h => h) (fun γ L a w hH hl hA => by have e0 := E2 γ L a w hH; have hB9 := hH.glob; have z0 := c_after hB9 hp; exact ⟨.pointer (some ⟨b, 0, none⟩), by simp [execOp, go_sem, e0, z0], (r1 _ _).mpr rfl⟩)) ?_
    refine RV.AllDo.cons 2 (RV.does_pure (fun γ v L w hl h => h) (fun γ L a w hH hl hA => by have e0 := E0 γ L a w hH; exact ⟨.int .i64 (m), by simp [execOp, go_sem, e0], (r2 _ _).mpr rfl⟩)) ?_
    refine RV.AllDo.cons 3 (RV.does_pure (fun γ v L w hl h => h) (fun γ L a w hH hl hA => by have e0 := E1 γ L a w hH; exact ⟨.int .i64 (n), by simp [execOp, go_sem, e0], (r3 _ _).mpr rfl⟩)) ?_
    refine RV.AllDo.cons 4 (RV.does_call (fun γ L a w hH hl hA => by have l0 : L 1 = true := hA ⟨1, .data⟩ (by simp) rfl; have e0 := hH.slot 1 7 d1 l0; have g0 := hH.holds 1 l0; rw [r1] at g0; rw [g0] at e0; have l1 : L 2 = true := hA ⟨2, .data⟩ (by simp) rfl; have e1 := hH.slot 2 8 d2 l1; have g1 := hH.holds 2 l1; rw [r2] at g1; rw [g1] at e1; have l2 : L 3 = true := hA ⟨3, .data⟩ (by simp) rfl; have e2 := hH.slot 3 9 d3 l2; have g2 := hH.holds 3 l2; rw [r3] at g2; rw [g2] at e2; have hB9 := hH.glob; exact ⟨73, #[.pointer (some ⟨b, 0, none⟩), .int .i64 (m), .int .i64 (n)], by simp [go_sem, e0, e1, e2], Calls.mono (A1.out w hB9) (by rintro e w2 ⟨rfl, hb⟩; exact ⟨_, rfl, (r4 _ _).mpr rfl, fun j v _ h => K j v _ _ h, hB9.trans (hb.mono hB9.size)⟩)⟩)) ?_
    refine RV.AllDo.cons 5 (RV.does_call (fun γ L a w hH hl hA => by have l0 : L 0 = true := hA ⟨0, .data⟩ (by simp) rfl; have e0 := hH.slot 0 6 d0 l0; have g0 := hH.holds 0 l0; rw [r0] at g0; rw [g0] at e0; have l1 : L 4 = true := hA ⟨4, .data⟩ (by simp) rfl; have e1 := hH.slot 4 10 d4 l1; have g1 := hH.holds 4 l1; rw [r4] at g1; rw [g1] at e1; have hB9 := hH.glob; exact ⟨70, #[.pointer (some ⟨b, 0, none⟩), .int .i64 (s), .int .i64 (1), .int .i64 (3)], by simp [go_sem, e0, e1], Calls.mono (A2.out w hB9) (by rintro e w2 ⟨rfl, hb⟩; exact ⟨_, rfl, (r5 _ _).mpr rfl, fun j v _ h => K j v _ _ h, hB9.trans (hb.mono hB9.size)⟩)⟩)) ?_
    refine RV.AllDo.cons 6 (RV.does_pure (fun γ v L w hl h => h) (fun γ L a w hH hl hA => by have l0 : L 5 = true := hA ⟨5, .data⟩ (by simp) rfl; have e0 := hH.slot 5 11 d5 l0; have g0 := hH.holds 5 l0; rw [r5] at g0; rw [g0] at e0; exact ⟨.int .i64 (q), by simp [execOp, go_sem, e0], (r6 _ _).mpr rfl⟩)) ?_
    exact RV.AllDo.nil
  · intro γ a5 w5 L9 hL hLo hH
    have ha := RV.held_act hH hL (by kernel_rfl) (by kernel_rfl)
    have hb8 := hH.glob
    have y0 : γ 0 = .pointer (some ⟨b, 0, none⟩) := hH.holds 0 (hL 0 (by decide))
    have y1 : γ 1 = .pointer (some ⟨b, 0, none⟩) := hH.holds 1 (hL 1 (by decide))
    have y2 : γ 2 = .int .i64 (m) := hH.holds 2 (hL 2 (by decide))
    have y3 : γ 3 = .int .i64 (n) := hH.holds 3 (hL 3 (by decide))
    have y4 : γ 4 = .int .i64 (s) := hH.holds 4 (hL 4 (by decide))
    have y5 : γ 5 = .int .i64 (q) := hH.holds 5 (hL 5 (by decide))
    have y6 : γ 6 = .int .i64 (q) := hH.holds 6 (hL 6 (by decide))
    rw [ha]
    clear ha hH hL hLo
    simp only [RV.putAll, Act.put, List.setIfInBounds_toArray, List.set_cons_zero, List.set_cons_succ, Nat.zero_add, Nat.reduceAdd, y0, y1, y2, y3, y4, y5, y6]
    clear y0 y1 y2 y3 y4 y5 y6
    go_wp2_with (fail)
    go_ret
    exact ⟨rfl, hb8⟩
set_option maxHeartbeats 2000000 in
set_option maxRecDepth 100000 in
theorem box_any (b : Nat) (h : Pt) (m : Int) (w0 : World) (hu : Up w0 b) (hx : 0 ≤ h.x ∧ h.x ≤ 137438953472) (hy : 0 ≤ h.y ∧ h.y ≤ 137438953472) (hz : 0 ≤ h.z ∧ h.z ≤ 137438953472) (m0 : 0 ≤ m) (m1 : m ≤ 1099511627776) :
    Calls Try.prog 57 #[.pointer (some ⟨b, 0, none⟩), h.v, .int .i64 m] w0 fun e W => e = .returned (.agg #[.int .i64 (boxI m h.y h.z), .int .i64 (boxI m h.z h.x), .int .i64 (boxI m h.x h.y)]) ∧ Below w0.heap.size w0 W := by
  have C1 : Hid (∀ t, 0 ≤ t ∧ t ≤ 137438953472 → ∀ w', Up w' b → Calls Try.prog 71 #[.pointer (some ⟨b, 0, none⟩), .int .i64 t, .int .i64 t] w' fun e W' => e = .returned (.int .i64 (t * t / 4294967296)) ∧ Below w'.heap.size w' W') := fun t ht w' hu => mul_ok b t t _ w' hu.c hu.f (mul_sq ht.1 ht.2)
  have C2 : Hid (∀ t, 0 ≤ t ∧ t ≤ 137438953472 → ∀ w', Up w' b → Calls Try.prog 71 #[.pointer (some ⟨b, 0, none⟩), .int .i64 m, .int .i64 (t * t / 4294967296)] w' fun e W' => e = .returned (.int .i64 (sqM m t)) ∧ Below w'.heap.size w' W') := fun t ht w' hu => mul_ok b m _ _ w' hu.c hu.f (mul_sqM m0 m1 ht.1 ht.2)
  have sx := sqM_in m0 m1 hx.1 hx.2
  have sy := sqM_in m0 m1 hy.1 hy.2
  have sz := sqM_in m0 m1 hz.1 hz.2
  have X1 : Hid _ := C1.out h.x hx
  have X2 : Hid _ := C2.out h.x hx
  have Y1 : Hid _ := C1.out h.y hy
  have Y2 : Hid _ := C2.out h.y hy
  have Z1 : Hid _ := C1.out h.z hz
  have Z2 : Hid _ := C2.out h.z hz
  clear C1 C2
  unfold boxI
  generalize sqM m h.x = ix at *
  generalize sqM m h.y = iy at *
  generalize sqM m h.z = iz at *
  generalize h.x * h.x / 4294967296 = jx at *
  generalize h.y * h.y / 4294967296 = jy at *
  generalize h.z * h.z / 4294967296 = jz at *
  have HU : Hid _ := hu
  clear hu m0 m1 hx hy hz
  obtain ⟨x, y, z⟩ := h
  unfold Pt.v
  dsimp only at *
  go_enter Try.func57, Try.ntmps57
  go_upto_region 1 with fail
  obtain ⟨V0, hV0⟩ : ∃ V0 : World, V0 = ((w0.alloc (.cells #[.pointer (some ⟨b, 0, none⟩)] 59)).alloc (.cells #[.int .i64 x, .int .i64 y, .int .i64 z] 34)).alloc (.cells #[.int .i64 0, .int .i64 0, .int .i64 0] 34) := ⟨_, rfl⟩
  have hD0 : Hid (Below w0.heap.size w0 V0) := by rw [hV0]; exact b_step (b_step (n_after w0 _) (n_after _ _)) (n_after _ _)
  have K0 : Hid (Cells V0 w0.heap.size [.pointer (some ⟨b, 0, none⟩)]) := by rw [hV0]; exact Cells.step (Cells.new w0 [.pointer (some ⟨b, 0, none⟩)] _) (b_step (n_after _ _) (n_after _ _))
  have H0 : Hid (Cells V0 (w0.heap.size + 1) [.int .i64 x, .int .i64 y, .int .i64 z]) := by rw [hV0]; have := Cells.new (w0.alloc (.cells #[.pointer (some ⟨b, 0, none⟩)] 59)) [.int .i64 x, .int .i64 y, .int .i64 z] 34; rw [World.size_alloc] at this; exact Cells.step this (n_after _ _)
  have R0 : Hid (Box3 V0 (w0.heap.size + 1 + 1) Pt.O) := by rw [hV0]; have := Box3.new ((w0.alloc (.cells #[.pointer (some ⟨b, 0, none⟩)] 59)).alloc (.cells #[.int .i64 x, .int .i64 y, .int .i64 z] 34)) 0 0 0 34; rwa [World.size_alloc, World.size_alloc] at this
  rw [← hV0]
  clear hV0
  obtain ⟨ba, hba⟩ : ∃ ba, ba = w0.heap.size := ⟨_, rfl⟩
  obtain ⟨bh, hbh⟩ : ∃ bh, bh = w0.heap.size + 1 := ⟨_, rfl⟩
  obtain ⟨br, hbr⟩ : ∃ br, br = w0.heap.size + 1 + 1 := ⟨_, rfl⟩
  have hlr : w0.heap.size ≤ br := by omega
  rw [← hbr] at R0 ⊢
  rw [← hbh] at H0 ⊢
  rw [← hba] at K0 ⊢
  clear hba hbh hbr
  have U0 : Hid (Up V0 b) := HU.out.step hD0.out
  clear HU
  have m0 := (K0.out 0 _ rfl).1
  have mx := (H0.out 0 _ rfl).1
  have my := (H0.out 1 _ rfl).1
  have mz := (H0.out 2 _ rfl).1
  refine RV.region_by (fun j v w => match j with | 0 => v = .pointer (some ⟨b, 0, none⟩) | 1 => v = .int .i64 (m) | 2 => v = .pointer (some ⟨b, 0, none⟩) | 3 => v = .pointer (some ⟨bh, 0, none⟩) | 4 => v = .int .i64 (x) | 5 => v = .pointer (some ⟨bh, 0, none⟩) | 6 => v = .int .i64 (x) | 7 => v = .int .i64 (jx) | 8 => v = .int .i64 (ix) | 9 => v = .int .i64 (ix) | _ => True) (fun γ L w9 => Below V0.heap.size V0 w9) (by kernel_rfl) (by kernel_rfl) (by kernel_rfl) (by kernel_rfl) ?_ ?_ ?_
  · exact (Below.refl _ V0).drew
  · generalize hD : dstOf _ = D
    generalize hWA : waitsFor _ = WA
    generalize hZ : Act.mk _ _ = Z
    obtain ⟨R, hR⟩ : ∃ R : Nat → Value → World → Prop, R = (fun j v w => match j with | 0 => v = .pointer (some ⟨b, 0, none⟩) | 1 => v = .int .i64 (m) | 2 => v = .pointer (some ⟨b, 0, none⟩) | 3 => v = .pointer (some ⟨bh, 0, none⟩) | 4 => v = .int .i64 (x) | 5 => v = .pointer (some ⟨bh, 0, none⟩) | 6 => v = .int .i64 (x) | 7 => v = .int .i64 (jx) | 8 => v = .int .i64 (ix) | 9 => v = .int .i64 (ix) | _ => True) := ⟨_, rfl⟩
    rw [← hR]
    have d0 : D 0 = some 11 := by rw [← hD]; rfl
    have d1 : D 1 = some 12 := by rw [← hD]; rfl
    have d2 : D 2 = some 13 := by rw [← hD]; rfl
    have d3 : D 3 = some 14 := by rw [← hD]; rfl
    have d4 : D 4 = some 15 := by rw [← hD]; rfl
    have d5 : D 5 = some 16 := by rw [← hD]; rfl
    have d6 : D 6 = some 17 := by rw [← hD]; rfl
    have d7 : D 7 = some 18 := by rw [← hD]; rfl
    have d8 : D 8 = some 19 := by rw [← hD]; rfl
    have d9 : D 9 = some 7 := by rw [← hD]; rfl
    have r0 : ∀ v w, R 0 v w = (v = .pointer (some ⟨b, 0, none⟩)) := fun v w => by rw [hR]; rfl
    have r1 : ∀ v w, R 1 v w = (v = .int .i64 (m)) := fun v w => by rw [hR]; rfl
    have r2 : ∀ v w, R 2 v w = (v = .pointer (some ⟨b, 0, none⟩)) := fun v w => by rw [hR]; rfl
    have r3 : ∀ v w, R 3 v w = (v = .pointer (some ⟨bh, 0, none⟩)) := fun v w => by rw [hR]; rfl
    have r4 : ∀ v w, R 4 v w = (v = .int .i64 (x)) := fun v w => by rw [hR]; rfl
    have r5 : ∀ v w, R 5 v w = (v = .pointer (some ⟨bh, 0, none⟩)) := fun v w => by rw [hR]; rfl
    have r6 : ∀ v w, R 6 v w = (v = .int .i64 (x)) := fun v w => by rw [hR]; rfl
    have r7 : ∀ v w, R 7 v w = (v = .int .i64 (jx)) := fun v w => by rw [hR]; rfl
    have r8 : ∀ v w, R 8 v w = (v = .int .i64 (ix)) := fun v w => by rw [hR]; rfl
    have r9 : ∀ v w, R 9 v w = (v = .int .i64 (ix)) := fun v w => by rw [hR]; rfl
    have E2 : ∀ (γ : Nat → Value) (L : Nat → Bool) (a : Act) (w : World), RV.Held D WA R (fun γ L w9 => Below V0.heap.size V0 w9) Z γ L a w → a.tmps[2]? = some (.int .i64 (m)) := fun γ L a w hH => (hH.rest 2 (by rw [← hD]; exact RV.dst_free (by kernel_rfl))).trans (by rw [← hZ]; rfl)
    have E3 : ∀ (γ : Nat → Value) (L : Nat → Bool) (a : Act) (w : World), RV.Held D WA R (fun γ L w9 => Below V0.heap.size V0 w9) Z γ L a w → a.tmps[3]? = some (.pointer (some ⟨ba, 0, none⟩)) := fun γ L a w hH => (hH.rest 3 (by rw [← hD]; exact RV.dst_free (by kernel_rfl))).trans (by rw [← hZ]; rfl)
    have E4 : ∀ (γ : Nat → Value) (L : Nat → Bool) (a : Act) (w : World), RV.Held D WA R (fun γ L w9 => Below V0.heap.size V0 w9) Z γ L a w → a.tmps[4]? = some (.pointer (some ⟨bh, 0, none⟩)) := fun γ L a w hH => (hH.rest 4 (by rw [← hD]; exact RV.dst_free (by kernel_rfl))).trans (by rw [← hZ]; rfl)
    have K : ∀ j v w w', R j v w → R j v w' := by rw [hR]; intro j v w w' h; exact h
    clear hD hWA hZ hR
    refine RV.AllDo.cons 0 (RV.does_pure (fun γ v L w hl h => h) (fun γ L a w hH hl hA => by have e0 := E3 γ L a w hH; have hB9 := hH.glob; have z0 := c_after hB9 m0; exact ⟨.pointer (some ⟨b, 0, none⟩), by simp [execOp, go_sem, e0, z0], (r0 _ _).mpr rfl⟩)) ?_
    refine RV.AllDo.cons 1 (RV.does_pure (fun γ v L w hl h => h) (fun γ L a w hH hl hA => by have e0 := E2 γ L a w hH; exact ⟨.int .i64 (m), by simp [execOp, go_sem, e0], (r1 _ _).mpr rfl⟩)) ?_
    refine RV.AllDo.cons 2 (RV.does_pure (fun γ v L w hl h => h) (fun γ L a w hH hl hA => by have e0 := E3 γ L a w hH; have hB9 := hH.glob; have z0 := c_after hB9 m0; exact ⟨.pointer (some ⟨b, 0, none⟩), by simp [execOp, go_sem, e0, z0], (r2 _ _).mpr rfl⟩)) ?_
    refine RV.AllDo.cons 3 (RV.does_pure (fun γ v L w hl h => h) (fun γ L a w hH hl hA => by have e0 := E4 γ L a w hH; exact ⟨.pointer (some ⟨bh, 0, none⟩), by simp [execOp, go_sem, e0], (r3 _ _).mpr rfl⟩)) ?_
    refine RV.AllDo.cons 4 (RV.does_pure (fun γ v L w hl h => h) (fun γ L a w hH hl hA => by have l0 : L 3 = true := hA ⟨3, .data⟩ (by simp) rfl; have e0 := hH.slot 3 14 d3 l0; have g0 := hH.holds 3 l0; rw [r3] at g0; rw [g0] at e0; have hB9 := hH.glob; have z0 := c_after hB9 mx; exact ⟨.int .i64 (x), by simp [execOp, go_sem, e0, z0], (r4 _ _).mpr rfl⟩)) ?_
    refine RV.AllDo.cons 5 (RV.does_pure (fun γ v L w hl h => h) (fun γ L a w hH hl hA => by have e0 := E4 γ L a w hH; exact ⟨.pointer (some ⟨bh, 0, none⟩), by simp [execOp, go_sem, e0], (r5 _ _).mpr rfl⟩)) ?_
    refine RV.AllDo.cons 6 (RV.does_pure (fun γ v L w hl h => h) (fun γ L a w hH hl hA => by have l0 : L 5 = true := hA ⟨5, .data⟩ (by simp) rfl; have e0 := hH.slot 5 16 d5 l0; have g0 := hH.holds 5 l0; rw [r5] at g0; rw [g0] at e0; have hB9 := hH.glob; have z0 := c_after hB9 mx; exact ⟨.int .i64 (x), by simp [execOp, go_sem, e0, z0], (r6 _ _).mpr rfl⟩)) ?_
    refine RV.AllDo.cons 7 (RV.does_call (fun γ L a w hH hl hA => by have l0 : L 2 = true := hA ⟨2, .data⟩ (by simp) rfl; have e0 := hH.slot 2 13 d2 l0; have g0 := hH.holds 2 l0; rw [r2] at g0; rw [g0] at e0; have l1 : L 4 = true := hA ⟨4, .data⟩ (by simp) rfl; have e1 := hH.slot 4 15 d4 l1; have g1 := hH.holds 4 l1; rw [r4] at g1; rw [g1] at e1; have l2 : L 6 = true := hA ⟨6, .data⟩ (by simp) rfl; have e2 := hH.slot 6 17 d6 l2; have g2 := hH.holds 6 l2; rw [r6] at g2; rw [g2] at e2; have hB9 := hH.glob; exact ⟨71, #[.pointer (some ⟨b, 0, none⟩), .int .i64 (x), .int .i64 (x)], by simp [go_sem, e0, e1, e2], Calls.mono (X1.out w (U0.out.step hB9)) (by rintro e w2 ⟨rfl, hb⟩; exact ⟨_, rfl, (r7 _ _).mpr rfl, fun j v _ h => K j v _ _ h, hB9.trans (hb.mono hB9.size)⟩)⟩)) ?_
    refine RV.AllDo.cons 8 (RV.does_call (fun γ L a w hH hl hA => by have l0 : L 0 = true := hA ⟨0, .data⟩ (by simp) rfl; have e0 := hH.slot 0 11 d0 l0; have g0 := hH.holds 0 l0; rw [r0] at g0; rw [g0] at e0; have l1 : L 1 = true := hA ⟨1, .data⟩ (by simp) rfl; have e1 := hH.slot 1 12 d1 l1; have g1 := hH.holds 1 l1; rw [r1] at g1; rw [g1] at e1; have l2 : L 7 = true := hA ⟨7, .data⟩ (by simp) rfl; have e2 := hH.slot 7 18 d7 l2; have g2 := hH.holds 7 l2; rw [r7] at g2; rw [g2] at e2; have hB9 := hH.glob; exact ⟨71, #[.pointer (some ⟨b, 0, none⟩), .int .i64 (m), .int .i64 (jx)], by simp [go_sem, e0, e1, e2], Calls.mono (X2.out w (U0.out.step hB9)) (by rintro e w2 ⟨rfl, hb⟩; exact ⟨_, rfl, (r8 _ _).mpr rfl, fun j v _ h => K j v _ _ h, hB9.trans (hb.mono hB9.size)⟩)⟩)) ?_
    refine RV.AllDo.cons 9 (RV.does_pure (fun γ v L w hl h => h) (fun γ L a w hH hl hA => by have l0 : L 8 = true := hA ⟨8, .data⟩ (by simp) rfl; have e0 := hH.slot 8 19 d8 l0; have g0 := hH.holds 8 l0; rw [r8] at g0; rw [g0] at e0; exact ⟨.int .i64 (ix), by simp [execOp, go_sem, e0], (r9 _ _).mpr rfl⟩)) ?_
    exact RV.AllDo.nil
  · intro γ a5 w5 L9 hL hLo hH
    have ha := RV.held_act hH hL (by kernel_rfl) (by kernel_rfl)
    have hb8 := hH.glob
    have y0 : γ 0 = .pointer (some ⟨b, 0, none⟩) := hH.holds 0 (hL 0 (by decide))
    have y1 : γ 1 = .int .i64 (m) := hH.holds 1 (hL 1 (by decide))
    have y2 : γ 2 = .pointer (some ⟨b, 0, none⟩) := hH.holds 2 (hL 2 (by decide))
    have y3 : γ 3 = .pointer (some ⟨bh, 0, none⟩) := hH.holds 3 (hL 3 (by decide))
    have y4 : γ 4 = .int .i64 (x) := hH.holds 4 (hL 4 (by decide))
    have y5 : γ 5 = .pointer (some ⟨bh, 0, none⟩) := hH.holds 5 (hL 5 (by decide))
    have y6 : γ 6 = .int .i64 (x) := hH.holds 6 (hL 6 (by decide))
    have y7 : γ 7 = .int .i64 (jx) := hH.holds 7 (hL 7 (by decide))
    have y8 : γ 8 = .int .i64 (ix) := hH.holds 8 (hL 8 (by decide))
    have y9 : γ 9 = .int .i64 (ix) := hH.holds 9 (hL 9 (by decide))
    rw [ha]
    clear ha hH hL hLo
    simp only [RV.putAll, Act.put, List.setIfInBounds_toArray, List.set_cons_zero, List.set_cons_succ, Nat.zero_add, Nat.reduceAdd, y0, y1, y2, y3, y4, y5, y6, y7, y8, y9]
    clear y0 y1 y2 y3 y4 y5 y6 y7 y8 y9
    obtain ⟨V1, hV1⟩ : ∃ X : World, X = w5 := ⟨_, rfl⟩
    rw [← hV1] at hb8 ⊢
    clear hV1 m0 mx my mz
    have hD1 : Hid _ := b_step hD0.out hb8
    have K1 : Hid (Cells V1 ba [.pointer (some ⟨b, 0, none⟩)]) := Cells.step K0.out hb8
    have H1 : Hid (Cells V1 bh [.int .i64 x, .int .i64 y, .int .i64 z]) := Cells.step H0.out hb8
    have R1 : Hid _ := R0.out.step hb8
    have U1 : Hid _ := U0.out.step hb8
    clear hb8 hD0 K0 H0 R0 U0 X1 X2
    go_upto_region 2 with fail
    have m0 := (K1.out 0 _ rfl).1
    have mx := (H1.out 0 _ rfl).1
    have my := (H1.out 1 _ rfl).1
    have mz := (H1.out 2 _ rfl).1
    refine RV.region_by (fun j v w => match j with | 0 => v = .pointer (some ⟨b, 0, none⟩) | 1 => v = .int .i64 (m) | 2 => v = .pointer (some ⟨b, 0, none⟩) | 3 => v = .pointer (some ⟨bh, 1, none⟩) | 4 => v = .int .i64 (y) | 5 => v = .pointer (some ⟨bh, 1, none⟩) | 6 => v = .int .i64 (y) | 7 => v = .int .i64 (jy) | 8 => v = .int .i64 (iy) | 9 => v = .int .i64 (iy) | _ => True) (fun γ L w9 => Below V1.heap.size V1 w9) (by kernel_rfl) (by kernel_rfl) (by kernel_rfl) (by kernel_rfl) ?_ ?_ ?_
    · exact (Below.refl _ V1).drew
    · generalize hD : dstOf _ = D
      generalize hWA : waitsFor _ = WA
      generalize hZ : Act.mk _ _ = Z
      obtain ⟨R, hR⟩ : ∃ R : Nat → Value → World → Prop, R = (fun j v w => match j with | 0 => v = .pointer (some ⟨b, 0, none⟩) | 1 => v = .int .i64 (m) | 2 => v = .pointer (some ⟨b, 0, none⟩) | 3 => v = .pointer (some ⟨bh, 1, none⟩) | 4 => v = .int .i64 (y) | 5 => v = .pointer (some ⟨bh, 1, none⟩) | 6 => v = .int .i64 (y) | 7 => v = .int .i64 (jy) | 8 => v = .int .i64 (iy) | 9 => v = .int .i64 (iy) | _ => True) := ⟨_, rfl⟩
      rw [← hR]
      have d0 : D 0 = some 20 := by rw [← hD]; rfl
      have d1 : D 1 = some 21 := by rw [← hD]; rfl
      have d2 : D 2 = some 22 := by rw [← hD]; rfl
      have d3 : D 3 = some 23 := by rw [← hD]; rfl
      have d4 : D 4 = some 24 := by rw [← hD]; rfl
      have d5 : D 5 = some 25 := by rw [← hD]; rfl
      have d6 : D 6 = some 26 := by rw [← hD]; rfl
      have d7 : D 7 = some 27 := by rw [← hD]; rfl
      have d8 : D 8 = some 28 := by rw [← hD]; rfl
      have d9 : D 9 = some 8 := by rw [← hD]; rfl
      have r0 : ∀ v w, R 0 v w = (v = .pointer (some ⟨b, 0, none⟩)) := fun v w => by rw [hR]; rfl
      have r1 : ∀ v w, R 1 v w = (v = .int .i64 (m)) := fun v w => by rw [hR]; rfl
      have r2 : ∀ v w, R 2 v w = (v = .pointer (some ⟨b, 0, none⟩)) := fun v w => by rw [hR]; rfl
      have r3 : ∀ v w, R 3 v w = (v = .pointer (some ⟨bh, 1, none⟩)) := fun v w => by rw [hR]; rfl
      have r4 : ∀ v w, R 4 v w = (v = .int .i64 (y)) := fun v w => by rw [hR]; rfl
      have r5 : ∀ v w, R 5 v w = (v = .pointer (some ⟨bh, 1, none⟩)) := fun v w => by rw [hR]; rfl
      have r6 : ∀ v w, R 6 v w = (v = .int .i64 (y)) := fun v w => by rw [hR]; rfl
      have r7 : ∀ v w, R 7 v w = (v = .int .i64 (jy)) := fun v w => by rw [hR]; rfl
      have r8 : ∀ v w, R 8 v w = (v = .int .i64 (iy)) := fun v w => by rw [hR]; rfl
      have r9 : ∀ v w, R 9 v w = (v = .int .i64 (iy)) := fun v w => by rw [hR]; rfl
      have E2 : ∀ (γ : Nat → Value) (L : Nat → Bool) (a : Act) (w : World), RV.Held D WA R (fun γ L w9 => Below V1.heap.size V1 w9) Z γ L a w → a.tmps[2]? = some (.int .i64 (m)) := fun γ L a w hH => (hH.rest 2 (by rw [← hD]; exact RV.dst_free (by kernel_rfl))).trans (by rw [← hZ]; rfl)
      have E3 : ∀ (γ : Nat → Value) (L : Nat → Bool) (a : Act) (w : World), RV.Held D WA R (fun γ L w9 => Below V1.heap.size V1 w9) Z γ L a w → a.tmps[3]? = some (.pointer (some ⟨ba, 0, none⟩)) := fun γ L a w hH => (hH.rest 3 (by rw [← hD]; exact RV.dst_free (by kernel_rfl))).trans (by rw [← hZ]; rfl)
      have E4 : ∀ (γ : Nat → Value) (L : Nat → Bool) (a : Act) (w : World), RV.Held D WA R (fun γ L w9 => Below V1.heap.size V1 w9) Z γ L a w → a.tmps[4]? = some (.pointer (some ⟨bh, 0, none⟩)) := fun γ L a w hH => (hH.rest 4 (by rw [← hD]; exact RV.dst_free (by kernel_rfl))).trans (by rw [← hZ]; rfl)
      have K : ∀ j v w w', R j v w → R j v w' := by rw [hR]; intro j v w w' h; exact h
      clear hD hWA hZ hR
      refine RV.AllDo.cons 0 (RV.does_pure (fun γ v L w hl h => h) (fun γ L a w hH hl hA => by have e0 := E3 γ L a w hH; have hB9 := hH.glob; have z0 := c_after hB9 m0; exact ⟨.pointer (some ⟨b, 0, none⟩), by simp [execOp, go_sem, e0, z0], (r0 _ _).mpr rfl⟩)) ?_
      refine RV.AllDo.cons 1 (RV.does_pure (fun γ v L w hl h => h) (fun γ L a w hH hl hA => by have e0 := E2 γ L a w hH; exact ⟨.int .i64 (m), by simp [execOp, go_sem, e0], (r1 _ _).mpr rfl⟩)) ?_
      refine RV.AllDo.cons 2 (RV.does_pure (fun γ v L w hl h => h) (fun γ L a w hH hl hA => by have e0 := E3 γ L a w hH; have hB9 := hH.glob; have z0 := c_after hB9 m0; exact ⟨.pointer (some ⟨b, 0, none⟩), by simp [execOp, go_sem, e0, z0], (r2 _ _).mpr rfl⟩)) ?_
      refine RV.AllDo.cons 3 (RV.does_pure (fun γ v L w hl h => h) (fun γ L a w hH hl hA => by have e0 := E4 γ L a w hH; exact ⟨.pointer (some ⟨bh, 1, none⟩), by simp [execOp, go_sem, e0], (r3 _ _).mpr rfl⟩)) ?_
      refine RV.AllDo.cons 4 (RV.does_pure (fun γ v L w hl h => h) (fun γ L a w hH hl hA => by have l0 : L 3 = true := hA ⟨3, .data⟩ (by simp) rfl; have e0 := hH.slot 3 23 d3 l0; have g0 := hH.holds 3 l0; rw [r3] at g0; rw [g0] at e0; have hB9 := hH.glob; have z0 := c_after hB9 my; exact ⟨.int .i64 (y), by simp [execOp, go_sem, e0, z0], (r4 _ _).mpr rfl⟩)) ?_
      refine RV.AllDo.cons 5 (RV.does_pure (fun γ v L w hl h => h) (fun γ L a w hH hl hA => by have e0 := E4 γ L a w hH; exact ⟨.pointer (some ⟨bh, 1, none⟩), by simp [execOp, go_sem, e0], (r5 _ _).mpr rfl⟩)) ?_
      refine RV.AllDo.cons 6 (RV.does_pure (fun γ v L w hl h => h) (fun γ L a w hH hl hA => by have l0 : L 5 = true := hA ⟨5, .data⟩ (by simp) rfl; have e0 := hH.slot 5 25 d5 l0; have g0 := hH.holds 5 l0; rw [r5] at g0; rw [g0] at e0; have hB9 := hH.glob; have z0 := c_after hB9 my; exact ⟨.int .i64 (y), by simp [execOp, go_sem, e0, z0], (r6 _ _).mpr rfl⟩)) ?_
      refine RV.AllDo.cons 7 (RV.does_call (fun γ L a w hH hl hA => by have l0 : L 2 = true := hA ⟨2, .data⟩ (by simp) rfl; have e0 := hH.slot 2 22 d2 l0; have g0 := hH.holds 2 l0; rw [r2] at g0; rw [g0] at e0; have l1 : L 4 = true := hA ⟨4, .data⟩ (by simp) rfl; have e1 := hH.slot 4 24 d4 l1; have g1 := hH.holds 4 l1; rw [r4] at g1; rw [g1] at e1; have l2 : L 6 = true := hA ⟨6, .data⟩ (by simp) rfl; have e2 := hH.slot 6 26 d6 l2; have g2 := hH.holds 6 l2; rw [r6] at g2; rw [g2] at e2; have hB9 := hH.glob; exact ⟨71, #[.pointer (some ⟨b, 0, none⟩), .int .i64 (y), .int .i64 (y)], by simp [go_sem, e0, e1, e2], Calls.mono (Y1.out w (U1.out.step hB9)) (by rintro e w2 ⟨rfl, hb⟩; exact ⟨_, rfl, (r7 _ _).mpr rfl, fun j v _ h => K j v _ _ h, hB9.trans (hb.mono hB9.size)⟩)⟩)) ?_
      refine RV.AllDo.cons 8 (RV.does_call (fun γ L a w hH hl hA => by have l0 : L 0 = true := hA ⟨0, .data⟩ (by simp) rfl; have e0 := hH.slot 0 20 d0 l0; have g0 := hH.holds 0 l0; rw [r0] at g0; rw [g0] at e0; have l1 : L 1 = true := hA ⟨1, .data⟩ (by simp) rfl; have e1 := hH.slot 1 21 d1 l1; have g1 := hH.holds 1 l1; rw [r1] at g1; rw [g1] at e1; have l2 : L 7 = true := hA ⟨7, .data⟩ (by simp) rfl; have e2 := hH.slot 7 27 d7 l2; have g2 := hH.holds 7 l2; rw [r7] at g2; rw [g2] at e2; have hB9 := hH.glob; exact ⟨71, #[.pointer (some ⟨b, 0, none⟩), .int .i64 (m), .int .i64 (jy)], by simp [go_sem, e0, e1, e2], Calls.mono (Y2.out w (U1.out.step hB9)) (by rintro e w2 ⟨rfl, hb⟩; exact ⟨_, rfl, (r8 _ _).mpr rfl, fun j v _ h => K j v _ _ h, hB9.trans (hb.mono hB9.size)⟩)⟩)) ?_
      refine RV.AllDo.cons 9 (RV.does_pure (fun γ v L w hl h => h) (fun γ L a w hH hl hA => by have l0 : L 8 = true := hA ⟨8, .data⟩ (by simp) rfl; have e0 := hH.slot 8 28 d8 l0; have g0 := hH.holds 8 l0; rw [r8] at g0; rw [g0] at e0; exact ⟨.int .i64 (iy), by simp [execOp, go_sem, e0], (r9 _ _).mpr rfl⟩)) ?_
      exact RV.AllDo.nil
    · intro γ a5 w5 L9 hL hLo hH
      have ha := RV.held_act hH hL (by kernel_rfl) (by kernel_rfl)
      have hb8 := hH.glob
      have y0 : γ 0 = .pointer (some ⟨b, 0, none⟩) := hH.holds 0 (hL 0 (by decide))
      have y1 : γ 1 = .int .i64 (m) := hH.holds 1 (hL 1 (by decide))
      have y2 : γ 2 = .pointer (some ⟨b, 0, none⟩) := hH.holds 2 (hL 2 (by decide))
      have y3 : γ 3 = .pointer (some ⟨bh, 1, none⟩) := hH.holds 3 (hL 3 (by decide))
      have y4 : γ 4 = .int .i64 (y) := hH.holds 4 (hL 4 (by decide))
      have y5 : γ 5 = .pointer (some ⟨bh, 1, none⟩) := hH.holds 5 (hL 5 (by decide))
      have y6 : γ 6 = .int .i64 (y) := hH.holds 6 (hL 6 (by decide))
      have y7 : γ 7 = .int .i64 (jy) := hH.holds 7 (hL 7 (by decide))
      have y8 : γ 8 = .int .i64 (iy) := hH.holds 8 (hL 8 (by decide))
      have y9 : γ 9 = .int .i64 (iy) := hH.holds 9 (hL 9 (by decide))
      rw [ha]
      clear ha hH hL hLo
      simp only [RV.putAll, Act.put, List.setIfInBounds_toArray, List.set_cons_zero, List.set_cons_succ, Nat.zero_add, Nat.reduceAdd, y0, y1, y2, y3, y4, y5, y6, y7, y8, y9]
      clear y0 y1 y2 y3 y4 y5 y6 y7 y8 y9
      obtain ⟨V2, hV2⟩ : ∃ X : World, X = w5 := ⟨_, rfl⟩
      rw [← hV2] at hb8 ⊢
      clear hV2 m0 mx my mz
      have hD2 : Hid _ := b_step hD1.out hb8
      have K2 : Hid (Cells V2 ba [.pointer (some ⟨b, 0, none⟩)]) := Cells.step K1.out hb8
      have H2 : Hid (Cells V2 bh [.int .i64 x, .int .i64 y, .int .i64 z]) := Cells.step H1.out hb8
      have R2 : Hid _ := R1.out.step hb8
      have U2 : Hid _ := U1.out.step hb8
      clear hb8 hD1 K1 H1 R1 U1 Y1 Y2
      go_upto_region 3 with fail
      have m0 := (K2.out 0 _ rfl).1
      have mx := (H2.out 0 _ rfl).1
      have my := (H2.out 1 _ rfl).1
      have mz := (H2.out 2 _ rfl).1
      refine RV.region_by (fun j v w => match j with | 0 => v = .pointer (some ⟨b, 0, none⟩) | 1 => v = .int .i64 (m) | 2 => v = .pointer (some ⟨b, 0, none⟩) | 3 => v = .pointer (some ⟨bh, 2, none⟩) | 4 => v = .int .i64 (z) | 5 => v = .pointer (some ⟨bh, 2, none⟩) | 6 => v = .int .i64 (z) | 7 => v = .int .i64 (jz) | 8 => v = .int .i64 (iz) | 9 => v = .int .i64 (iz) | _ => True) (fun γ L w9 => Below V2.heap.size V2 w9) (by kernel_rfl) (by kernel_rfl) (by kernel_rfl) (by kernel_rfl) ?_ ?_ ?_
      · exact (Below.refl _ V2).drew
      · generalize hD : dstOf _ = D
        generalize hWA : waitsFor _ = WA
        generalize hZ : Act.mk _ _ = Z
        obtain ⟨R, hR⟩ : ∃ R : Nat → Value → World → Prop, R = (fun j v w => match j with | 0 => v = .pointer (some ⟨b, 0, none⟩) | 1 => v = .int .i64 (m) | 2 => v = .pointer (some ⟨b, 0, none⟩) | 3 => v = .pointer (some ⟨bh, 2, none⟩) | 4 => v = .int .i64 (z) | 5 => v = .pointer (some ⟨bh, 2, none⟩) | 6 => v = .int .i64 (z) | 7 => v = .int .i64 (jz) | 8 => v = .int .i64 (iz) | 9 => v = .int .i64 (iz) | _ => True) := ⟨_, rfl⟩
        rw [← hR]
        have d0 : D 0 = some 29 := by rw [← hD]; rfl
        have d1 : D 1 = some 30 := by rw [← hD]; rfl
        have d2 : D 2 = some 31 := by rw [← hD]; rfl
        have d3 : D 3 = some 32 := by rw [← hD]; rfl
        have d4 : D 4 = some 33 := by rw [← hD]; rfl
        have d5 : D 5 = some 34 := by rw [← hD]; rfl
        have d6 : D 6 = some 35 := by rw [← hD]; rfl
        have d7 : D 7 = some 36 := by rw [← hD]; rfl
        have d8 : D 8 = some 37 := by rw [← hD]; rfl
        have d9 : D 9 = some 9 := by rw [← hD]; rfl
        have r0 : ∀ v w, R 0 v w = (v = .pointer (some ⟨b, 0, none⟩)) := fun v w => by rw [hR]; rfl
        have r1 : ∀ v w, R 1 v w = (v = .int .i64 (m)) := fun v w => by rw [hR]; rfl
        have r2 : ∀ v w, R 2 v w = (v = .pointer (some ⟨b, 0, none⟩)) := fun v w => by rw [hR]; rfl
        have r3 : ∀ v w, R 3 v w = (v = .pointer (some ⟨bh, 2, none⟩)) := fun v w => by rw [hR]; rfl
        have r4 : ∀ v w, R 4 v w = (v = .int .i64 (z)) := fun v w => by rw [hR]; rfl
        have r5 : ∀ v w, R 5 v w = (v = .pointer (some ⟨bh, 2, none⟩)) := fun v w => by rw [hR]; rfl
        have r6 : ∀ v w, R 6 v w = (v = .int .i64 (z)) := fun v w => by rw [hR]; rfl
        have r7 : ∀ v w, R 7 v w = (v = .int .i64 (jz)) := fun v w => by rw [hR]; rfl
        have r8 : ∀ v w, R 8 v w = (v = .int .i64 (iz)) := fun v w => by rw [hR]; rfl
        have r9 : ∀ v w, R 9 v w = (v = .int .i64 (iz)) := fun v w => by rw [hR]; rfl
        have E2 : ∀ (γ : Nat → Value) (L : Nat → Bool) (a : Act) (w : World), RV.Held D WA R (fun γ L w9 => Below V2.heap.size V2 w9) Z γ L a w → a.tmps[2]? = some (.int .i64 (m)) := fun γ L a w hH => (hH.rest 2 (by rw [← hD]; exact RV.dst_free (by kernel_rfl))).trans (by rw [← hZ]; rfl)
        have E3 : ∀ (γ : Nat → Value) (L : Nat → Bool) (a : Act) (w : World), RV.Held D WA R (fun γ L w9 => Below V2.heap.size V2 w9) Z γ L a w → a.tmps[3]? = some (.pointer (some ⟨ba, 0, none⟩)) := fun γ L a w hH => (hH.rest 3 (by rw [← hD]; exact RV.dst_free (by kernel_rfl))).trans (by rw [← hZ]; rfl)
        have E4 : ∀ (γ : Nat → Value) (L : Nat → Bool) (a : Act) (w : World), RV.Held D WA R (fun γ L w9 => Below V2.heap.size V2 w9) Z γ L a w → a.tmps[4]? = some (.pointer (some ⟨bh, 0, none⟩)) := fun γ L a w hH => (hH.rest 4 (by rw [← hD]; exact RV.dst_free (by kernel_rfl))).trans (by rw [← hZ]; rfl)
        have K : ∀ j v w w', R j v w → R j v w' := by rw [hR]; intro j v w w' h; exact h
        clear hD hWA hZ hR
        refine RV.AllDo.cons 0 (RV.does_pure (fun γ v L w hl h => h) (fun γ L a w hH hl hA => by have e0 := E3 γ L a w hH; have hB9 := hH.glob; have z0 := c_after hB9 m0; exact ⟨.pointer (some ⟨b, 0, none⟩), by simp [execOp, go_sem, e0, z0], (r0 _ _).mpr rfl⟩)) ?_
        refine RV.AllDo.cons 1 (RV.does_pure (fun γ v L w hl h => h) (fun γ L a w hH hl hA => by have e0 := E2 γ L a w hH; exact ⟨.int .i64 (m), by simp [execOp, go_sem, e0], (r1 _ _).mpr rfl⟩)) ?_
        refine RV.AllDo.cons 2 (RV.does_pure (fun γ v L w hl h => h) (fun γ L a w hH hl hA => by have e0 := E3 γ L a w hH; have hB9 := hH.glob; have z0 := c_after hB9 m0; exact ⟨.pointer (some ⟨b, 0, none⟩), by simp [execOp, go_sem, e0, z0], (r2 _ _).mpr rfl⟩)) ?_
        refine RV.AllDo.cons 3 (RV.does_pure (fun γ v L w hl h => h) (fun γ L a w hH hl hA => by have e0 := E4 γ L a w hH; exact ⟨.pointer (some ⟨bh, 2, none⟩), by simp [execOp, go_sem, e0], (r3 _ _).mpr rfl⟩)) ?_
        refine RV.AllDo.cons 4 (RV.does_pure (fun γ v L w hl h => h) (fun γ L a w hH hl hA => by have l0 : L 3 = true := hA ⟨3, .data⟩ (by simp) rfl; have e0 := hH.slot 3 32 d3 l0; have g0 := hH.holds 3 l0; rw [r3] at g0; rw [g0] at e0; have hB9 := hH.glob; have z0 := c_after hB9 mz; exact ⟨.int .i64 (z), by simp [execOp, go_sem, e0, z0], (r4 _ _).mpr rfl⟩)) ?_
        refine RV.AllDo.cons 5 (RV.does_pure (fun γ v L w hl h => h) (fun γ L a w hH hl hA => by have e0 := E4 γ L a w hH; exact ⟨.pointer (some ⟨bh, 2, none⟩), by simp [execOp, go_sem, e0], (r5 _ _).mpr rfl⟩)) ?_
        refine RV.AllDo.cons 6 (RV.does_pure (fun γ v L w hl h => h) (fun γ L a w hH hl hA => by have l0 : L 5 = true := hA ⟨5, .data⟩ (by simp) rfl; have e0 := hH.slot 5 34 d5 l0; have g0 := hH.holds 5 l0; rw [r5] at g0; rw [g0] at e0; have hB9 := hH.glob; have z0 := c_after hB9 mz; exact ⟨.int .i64 (z), by simp [execOp, go_sem, e0, z0], (r6 _ _).mpr rfl⟩)) ?_
        refine RV.AllDo.cons 7 (RV.does_call (fun γ L a w hH hl hA => by have l0 : L 2 = true := hA ⟨2, .data⟩ (by simp) rfl; have e0 := hH.slot 2 31 d2 l0; have g0 := hH.holds 2 l0; rw [r2] at g0; rw [g0] at e0; have l1 : L 4 = true := hA ⟨4, .data⟩ (by simp) rfl; have e1 := hH.slot 4 33 d4 l1; have g1 := hH.holds 4 l1; rw [r4] at g1; rw [g1] at e1; have l2 : L 6 = true := hA ⟨6, .data⟩ (by simp) rfl; have e2 := hH.slot 6 35 d6 l2; have g2 := hH.holds 6 l2; rw [r6] at g2; rw [g2] at e2; have hB9 := hH.glob; exact ⟨71, #[.pointer (some ⟨b, 0, none⟩), .int .i64 (z), .int .i64 (z)], by simp [go_sem, e0, e1, e2], Calls.mono (Z1.out w (U2.out.step hB9)) (by rintro e w2 ⟨rfl, hb⟩; exact ⟨_, rfl, (r7 _ _).mpr rfl, fun j v _ h => K j v _ _ h, hB9.trans (hb.mono hB9.size)⟩)⟩)) ?_
        refine RV.AllDo.cons 8 (RV.does_call (fun γ L a w hH hl hA => by have l0 : L 0 = true := hA ⟨0, .data⟩ (by simp) rfl; have e0 := hH.slot 0 29 d0 l0; have g0 := hH.holds 0 l0; rw [r0] at g0; rw [g0] at e0; have l1 : L 1 = true := hA ⟨1, .data⟩ (by simp) rfl; have e1 := hH.slot 1 30 d1 l1; have g1 := hH.holds 1 l1; rw [r1] at g1; rw [g1] at e1; have l2 : L 7 = true := hA ⟨7, .data⟩ (by simp) rfl; have e2 := hH.slot 7 36 d7 l2; have g2 := hH.holds 7 l2; rw [r7] at g2; rw [g2] at e2; have hB9 := hH.glob; exact ⟨71, #[.pointer (some ⟨b, 0, none⟩), .int .i64 (m), .int .i64 (jz)], by simp [go_sem, e0, e1, e2], Calls.mono (Z2.out w (U2.out.step hB9)) (by rintro e w2 ⟨rfl, hb⟩; exact ⟨_, rfl, (r8 _ _).mpr rfl, fun j v _ h => K j v _ _ h, hB9.trans (hb.mono hB9.size)⟩)⟩)) ?_
        refine RV.AllDo.cons 9 (RV.does_pure (fun γ v L w hl h => h) (fun γ L a w hH hl hA => by have l0 : L 8 = true := hA ⟨8, .data⟩ (by simp) rfl; have e0 := hH.slot 8 37 d8 l0; have g0 := hH.holds 8 l0; rw [r8] at g0; rw [g0] at e0; exact ⟨.int .i64 (iz), by simp [execOp, go_sem, e0], (r9 _ _).mpr rfl⟩)) ?_
        exact RV.AllDo.nil
      · intro γ a5 w5 L9 hL hLo hH
        have ha := RV.held_act hH hL (by kernel_rfl) (by kernel_rfl)
        have hb8 := hH.glob
        have y0 : γ 0 = .pointer (some ⟨b, 0, none⟩) := hH.holds 0 (hL 0 (by decide))
        have y1 : γ 1 = .int .i64 (m) := hH.holds 1 (hL 1 (by decide))
        have y2 : γ 2 = .pointer (some ⟨b, 0, none⟩) := hH.holds 2 (hL 2 (by decide))
        have y3 : γ 3 = .pointer (some ⟨bh, 2, none⟩) := hH.holds 3 (hL 3 (by decide))
        have y4 : γ 4 = .int .i64 (z) := hH.holds 4 (hL 4 (by decide))
        have y5 : γ 5 = .pointer (some ⟨bh, 2, none⟩) := hH.holds 5 (hL 5 (by decide))
        have y6 : γ 6 = .int .i64 (z) := hH.holds 6 (hL 6 (by decide))
        have y7 : γ 7 = .int .i64 (jz) := hH.holds 7 (hL 7 (by decide))
        have y8 : γ 8 = .int .i64 (iz) := hH.holds 8 (hL 8 (by decide))
        have y9 : γ 9 = .int .i64 (iz) := hH.holds 9 (hL 9 (by decide))
        rw [ha]
        clear ha hH hL hLo
        simp only [RV.putAll, Act.put, List.setIfInBounds_toArray, List.set_cons_zero, List.set_cons_succ, Nat.zero_add, Nat.reduceAdd, y0, y1, y2, y3, y4, y5, y6, y7, y8, y9]
        clear y0 y1 y2 y3 y4 y5 y6 y7 y8 y9
        obtain ⟨V3, hV3⟩ : ∃ X : World, X = w5 := ⟨_, rfl⟩
        rw [← hV3] at hb8 ⊢
        clear hV3 m0 mx my mz
        have hD3 : Hid _ := b_step hD2.out hb8
        have K3 : Hid (Cells V3 ba [.pointer (some ⟨b, 0, none⟩)]) := Cells.step K2.out hb8
        have H3 : Hid (Cells V3 bh [.int .i64 x, .int .i64 y, .int .i64 z]) := Cells.step H2.out hb8
        have R3 : Hid _ := R2.out.step hb8
        have U3 : Hid _ := U2.out.step hb8
        clear hb8 hD2 K2 H2 R2 U2 Z1 Z2
        go_wp2_with (fail)
        refine Calls.mono (third_any ba b iy iz V3 U3.out (K3.out 0 _ rfl).1 sy.1 sy.2 sz.1 sz.2) ?_
        rintro e V4 ⟨rfl, hb⟩
        have hD4 : Hid _ := b_step hD3.out hb
        have K4 : Hid (Cells V4 ba [.pointer (some ⟨b, 0, none⟩)]) := Cells.step K3.out hb
        have R4 : Hid _ := R3.out.step hb
        have U4 : Hid _ := U3.out.step hb
        clear hb hD3 K3 R3 U3 H3
        go_wp2_with (fail)
        refine Calls.mono (third_any ba b iz ix V4 U4.out (K4.out 0 _ rfl).1 sz.1 sz.2 sx.1 sx.2) ?_
        rintro e V5 ⟨rfl, hb⟩
        have hD5 : Hid _ := b_step hD4.out hb
        have K5 : Hid (Cells V5 ba [.pointer (some ⟨b, 0, none⟩)]) := Cells.step K4.out hb
        have R5 : Hid _ := R4.out.step hb
        have U5 : Hid _ := U4.out.step hb
        clear hb hD4 K4 R4 U4
        go_wp2_with (fail)
        refine Calls.mono (third_any ba b ix iy V5 U5.out (K5.out 0 _ rfl).1 sx.1 sx.2 sy.1 sy.2) ?_
        rintro e V6 ⟨rfl, hb⟩
        have hD6 : Hid _ := b_step hD5.out hb
        obtain ⟨r0, r1, r2, f0, f1, f2⟩ := R5.out.step hb
        simp only [Pt.O] at r0 r1 r2
        clear hb hD5 K5 U5 R5
        go_wp2_with (fail)
        refine bodyPost_ret (v := .agg #[.int .i64 ((iy + iz) / 3), .int .i64 ((iz + ix) / 3), .int .i64 ((ix + iy) / 3)]) (by simp [results, Try.results57, go_sem, r0, r1, r2]) rfl ⟨rfl, ?_⟩
        exact set3_below hD6.out hlr _ _ _
end Go.Proofs.Ytiicpdlaaklahaa
