/- Package shape's lowest and Short. -/
import Derived.Test.YtompnibhfdkkjaaGreatSPPlace1
import Derived.OneCell
namespace Go.Proofs.YtompnibhfdkkjaaGreat
open Go.RowKit Go.Shelf
set_option linter.unusedVariables false

theorem gcd_le {a b B : Nat} (ha : a ≤ B) (hb : b ≤ B) : Nat.gcd a b ≤ B := by
  by_cases h : a = 0
  · subst h; rw [Nat.gcd_zero_left]; exact hb
  · exact Nat.le_trans (Nat.le_of_dvd (by omega) (Nat.gcd_dvd_left a b)) ha
set_option maxHeartbeats 1000000 in
set_option maxRecDepth 100000 in
theorem lowest_any (p : Pt) (w0 : World) (hp : p.inB 4398046511104 = true) :
    Calls Tryz.prog 118 #[p.v] w0 fun e W => e = .returned p.low.v ∧ Below w0.heap.size w0 W := by
  have hq := hp
  rw [Pt.inB_iff] at hq
  have b1 : Nat.gcd p.x.natAbs p.y.natAbs ≤ 4398046511104 := gcd_le (by omega) (by omega)
  have b2 : p.g ≤ 4398046511104 := gcd_le b1 (by omega)
  have G1 : Hid _ := fun w' => gcd_any p.x p.y w' (by omega) (by omega)
  have G2 : Hid (∀ w', Calls Tryz.prog 132 #[.int .i64 (Nat.gcd p.x.natAbs p.y.natAbs : Nat), .int .i64 p.z] w' fun e W => e = .returned (.int .i64 (p.g : Nat)) ∧ Below w'.heap.size w' W) := fun w' => gcd_any (Nat.gcd p.x.natAbs p.y.natAbs : Nat) p.z w' (by omega) (by omega)
  have HD : Hid (p.g ≠ 0 → ∀ w', Calls Tryz.prog 119 #[p.v, .int .i64 (p.g : Nat)] w' fun e W => e = .returned (p.by p.g).v ∧ Below w'.heap.size w' W) := fun h w' => divided_any p p.g w' (inB_mono hp (by decide)) (by omega) (by omega)
  have HL : Hid (p.low = if p.g = 0 then p else p.by p.g) := rfl
  generalize p.low = r at *
  generalize Nat.gcd p.x.natAbs p.y.natAbs = m1 at *
  generalize p.g = m2 at *
  obtain ⟨x, y, z⟩ := p
  clear hp hq
  unfold Pt.v at *
  dsimp only at *
  go_enter Tryz.func118, Tryz.ntmps118
  go_wp2_with (fail)
  obtain ⟨V, hV⟩ : ∃ V : World, V = ((w0.alloc (.cells #[.int .i64 x, .int .i64 y, .int .i64 z] 31)).alloc (.cells #[.int .i64 0, .int .i64 0, .int .i64 0] 31)) := ⟨_, rfl⟩
  have hBV : Below w0.heap.size w0 V := by rw [hV]; exact (((Below.refl _ w0).alloc (by simp; try omega) _).alloc (by simp; try omega) _)
  have V0_0 : V.cell? ⟨w0.heap.size, 0, none⟩ = some (.int .i64 x) := by rw [hV]; simp [go_sem]
  have V0_1 : V.cell? ⟨w0.heap.size, 1, none⟩ = some (.int .i64 y) := by rw [hV]; simp [go_sem]
  have V0_2 : V.cell? ⟨w0.heap.size, 2, none⟩ = some (.int .i64 z) := by rw [hV]; simp [go_sem]
  have V1_0 : V.cell? ⟨w0.heap.size + 1, 0, none⟩ = some (.int .i64 0) := by rw [hV]; simp [go_sem]
  have V1_1 : V.cell? ⟨w0.heap.size + 1, 1, none⟩ = some (.int .i64 0) := by rw [hV]; simp [go_sem]
  have V1_2 : V.cell? ⟨w0.heap.size + 1, 2, none⟩ = some (.int .i64 0) := by rw [hV]; simp [go_sem]
  have Vf1_0 : V.frozen? ⟨w0.heap.size + 1, 0, none⟩ = false := by rw [hV]; simp [go_sem]
  have Vf1_1 : V.frozen? ⟨w0.heap.size + 1, 1, none⟩ = false := by rw [hV]; simp [go_sem]
  have Vf1_2 : V.frozen? ⟨w0.heap.size + 1, 2, none⟩ = false := by rw [hV]; simp [go_sem]
  rw [← hV]
  clear hV
  refine RV.region_by (fun j v w => match j with | 0 => v = .pointer (some ⟨w0.heap.size, 0, none⟩) | 1 => v = .int .i64 (x) | 2 => v = .pointer (some ⟨w0.heap.size, 1, none⟩) | 3 => v = .int .i64 (y) | 4 => v = .int .i64 ((m1 : Nat)) | 5 => v = .pointer (some ⟨w0.heap.size, 2, none⟩) | 6 => v = .int .i64 (z) | 7 => v = .int .i64 ((m2 : Nat)) | 8 => v = .int .i64 ((m2 : Nat)) | _ => True) (fun γ L w9 => Below V.heap.size V w9) (by kernel_rfl) (by kernel_rfl) (by kernel_rfl) (by kernel_rfl) ?_ ?_ ?_
  · exact (Below.refl _ V).drew
  · generalize hD : dstOf _ = D
    generalize hWA : waitsFor _ = WA
    generalize hZ : Act.mk _ _ = Z
    obtain ⟨R, hR⟩ : ∃ R : Nat → Value → World → Prop, R = (fun j v w => match j with | 0 => v = .pointer (some ⟨w0.heap.size, 0, none⟩) | 1 => v = .int .i64 (x) | 2 => v = .pointer (some ⟨w0.heap.size, 1, none⟩) | 3 => v = .int .i64 (y) | 4 => v = .int .i64 ((m1 : Nat)) | 5 => v = .pointer (some ⟨w0.heap.size, 2, none⟩) | 6 => v = .int .i64 (z) | 7 => v = .int .i64 ((m2 : Nat)) | 8 => v = .int .i64 ((m2 : Nat)) | _ => True) := ⟨_, rfl⟩
    rw [← hR]
    have d0 : D 0 = some 4 := by rw [← hD]; rfl
    have d1 : D 1 = some 5 := by rw [← hD]; rfl
    have d2 : D 2 = some 6 := by rw [← hD]; rfl
    have d3 : D 3 = some 7 := by rw [← hD]; rfl
    have d4 : D 4 = some 8 := by rw [← hD]; rfl
    have d5 : D 5 = some 9 := by rw [← hD]; rfl
    have d6 : D 6 = some 10 := by rw [← hD]; rfl
    have d7 : D 7 = some 11 := by rw [← hD]; rfl
    have d8 : D 8 = some 3 := by rw [← hD]; rfl
    have r0 : ∀ v w, R 0 v w = (v = .pointer (some ⟨w0.heap.size, 0, none⟩)) := fun v w => by rw [hR]; rfl
    have r1 : ∀ v w, R 1 v w = (v = .int .i64 (x)) := fun v w => by rw [hR]; rfl
    have r2 : ∀ v w, R 2 v w = (v = .pointer (some ⟨w0.heap.size, 1, none⟩)) := fun v w => by rw [hR]; rfl
    have r3 : ∀ v w, R 3 v w = (v = .int .i64 (y)) := fun v w => by rw [hR]; rfl
    have r4 : ∀ v w, R 4 v w = (v = .int .i64 ((m1 : Nat))) := fun v w => by rw [hR]; rfl
    have r5 : ∀ v w, R 5 v w = (v = .pointer (some ⟨w0.heap.size, 2, none⟩)) := fun v w => by rw [hR]; rfl
    have r6 : ∀ v w, R 6 v w = (v = .int .i64 (z)) := fun v w => by rw [hR]; rfl
    have r7 : ∀ v w, R 7 v w = (v = .int .i64 ((m2 : Nat))) := fun v w => by rw [hR]; rfl
    have r8 : ∀ v w, R 8 v w = (v = .int .i64 ((m2 : Nat))) := fun v w => by rw [hR]; rfl
    have E1 : ∀ (γ : Nat → Value) (L : Nat → Bool) (a : Act) (w : World), RV.Held D WA R (fun γ L w9 => Below V.heap.size V w9) Z γ L a w → a.tmps[1]? = some (.pointer (some ⟨w0.heap.size, 0, none⟩)) := fun γ L a w hH => (hH.rest 1 (by rw [← hD]; exact RV.dst_free (by kernel_rfl))).trans (by rw [← hZ]; rfl)
    have K : ∀ j v w w', R j v w → R j v w' := by rw [hR]; intro j v w w' h; exact h
    clear hD hWA hZ hR
    refine RV.AllDo.cons 0 (RV.does_pure (fun γ v L w hl h => h) (fun γ L a w hH hl hA => by have e0 := E1 γ L a w hH; exact ⟨.pointer (some ⟨w0.heap.size, 0, none⟩), by simp [execOp, go_sem, e0], (r0 _ _).mpr rfl⟩)) ?_
    refine RV.AllDo.cons 1 (RV.does_pure (fun γ v L w hl h => h) (fun γ L a w hH hl hA => by have l0 : L 0 = true := hA ⟨0, .data⟩ (by simp) rfl; have e0 := hH.slot 0 4 d0 l0; have g0 := hH.holds 0 l0; rw [r0] at g0; rw [g0] at e0; have hB9 := hH.glob; have z0 := c_after hB9 V0_0; exact ⟨.int .i64 (x), by simp [execOp, go_sem, e0, z0], (r1 _ _).mpr rfl⟩)) ?_
    refine RV.AllDo.cons 2 (RV.does_pure (fun γ v L w hl h => h) (fun γ L a w hH hl hA => by have e0 := E1 γ L a w hH; exact ⟨.pointer (some ⟨w0.heap.size, 1, none⟩), by simp [execOp, go_sem, e0], (r2 _ _).mpr rfl⟩)) ?_
    refine RV.AllDo.cons 3 (RV.does_pure (fun γ v L w hl h => h) (fun γ L a w hH hl hA => by have l0 : L 2 = true := hA ⟨2, .data⟩ (by simp) rfl; have e0 := hH.slot 2 6 d2 l0; have g0 := hH.holds 2 l0; rw [r2] at g0; rw [g0] at e0; have hB9 := hH.glob; have z0 := c_after hB9 V0_1; exact ⟨.int .i64 (y), by simp [execOp, go_sem, e0, z0], (r3 _ _).mpr rfl⟩)) ?_
    refine RV.AllDo.cons 4 (RV.does_call (fun γ L a w hH hl hA => by have l0 : L 1 = true := hA ⟨1, .data⟩ (by simp) rfl; have e0 := hH.slot 1 5 d1 l0; have g0 := hH.holds 1 l0; rw [r1] at g0; rw [g0] at e0; have l1 : L 3 = true := hA ⟨3, .data⟩ (by simp) rfl; have e1 := hH.slot 3 7 d3 l1; have g1 := hH.holds 3 l1; rw [r3] at g1; rw [g1] at e1; have hB9 := hH.glob; exact ⟨132, #[.int .i64 (x), .int .i64 (y)], by simp [go_sem, e0, e1], Calls.mono (G1.out w) (by rintro e w2 ⟨rfl, hb⟩; exact ⟨_, rfl, (r4 _ _).mpr rfl, fun j v _ h => K j v _ _ h, hB9.trans (hb.mono hB9.size)⟩)⟩)) ?_
    refine RV.AllDo.cons 5 (RV.does_pure (fun γ v L w hl h => h) (fun γ L a w hH hl hA => by have e0 := E1 γ L a w hH; exact ⟨.pointer (some ⟨w0.heap.size, 2, none⟩), by simp [execOp, go_sem, e0], (r5 _ _).mpr rfl⟩)) ?_
    refine RV.AllDo.cons 6 (RV.does_pure (fun γ v L w hl h => h) (fun γ L a w hH hl hA => by have l0 : L 5 = true := hA ⟨5, .data⟩ (by simp) rfl; have e0 := hH.slot 5 9 d5 l0; have g0 := hH.holds 5 l0; rw [r5] at g0; rw [g0] at e0; have hB9 := hH.glob; have z0 := c_after hB9 V0_2; exact ⟨.int .i64 (z), by simp [execOp, go_sem, e0, z0], (r6 _ _).mpr rfl⟩)) ?_
    refine RV.AllDo.cons 7 (RV.does_call (fun γ L a w hH hl hA => by have l0 : L 4 = true := hA ⟨4, .data⟩ (by simp) rfl; have e0 := hH.slot 4 8 d4 l0; have g0 := hH.holds 4 l0; rw [r4] at g0; rw [g0] at e0; have l1 : L 6 = true := hA ⟨6, .data⟩ (by simp) rfl; have e1 := hH.slot 6 10 d6 l1; have g1 := hH.holds 6 l1; rw [r6] at g1; rw [g1] at e1; have hB9 := hH.glob; exact ⟨132, #[.int .i64 ((m1 : Nat)), .int .i64 (z)], by simp [go_sem, e0, e1], Calls.mono (G2.out w) (by rintro e w2 ⟨rfl, hb⟩; exact ⟨_, rfl, (r7 _ _).mpr rfl, fun j v _ h => K j v _ _ h, hB9.trans (hb.mono hB9.size)⟩)⟩)) ?_
    refine RV.AllDo.cons 8 (RV.does_pure (fun γ v L w hl h => h) (fun γ L a w hH hl hA => by have l0 : L 7 = true := hA ⟨7, .data⟩ (by simp) rfl; have e0 := hH.slot 7 11 d7 l0; have g0 := hH.holds 7 l0; rw [r7] at g0; rw [g0] at e0; exact ⟨.int .i64 ((m2 : Nat)), by simp [execOp, go_sem, e0], (r8 _ _).mpr rfl⟩)) ?_
    exact RV.AllDo.nil
  · intro γ a5 w5 L9 hL hLo hH
    have ha := RV.held_act hH hL (by kernel_rfl) (by kernel_rfl)
    have hb8 := hH.glob
    have y0 : γ 0 = .pointer (some ⟨w0.heap.size, 0, none⟩) := hH.holds 0 (hL 0 (by decide))
    have y1 : γ 1 = .int .i64 (x) := hH.holds 1 (hL 1 (by decide))
    have y2 : γ 2 = .pointer (some ⟨w0.heap.size, 1, none⟩) := hH.holds 2 (hL 2 (by decide))
    have y3 : γ 3 = .int .i64 (y) := hH.holds 3 (hL 3 (by decide))
    have y4 : γ 4 = .int .i64 ((m1 : Nat)) := hH.holds 4 (hL 4 (by decide))
    have y5 : γ 5 = .pointer (some ⟨w0.heap.size, 2, none⟩) := hH.holds 5 (hL 5 (by decide))
    have y6 : γ 6 = .int .i64 (z) := hH.holds 6 (hL 6 (by decide))
    have y7 : γ 7 = .int .i64 ((m2 : Nat)) := hH.holds 7 (hL 7 (by decide))
    have y8 : γ 8 = .int .i64 ((m2 : Nat)) := hH.holds 8 (hL 8 (by decide))
    rw [ha]
    clear ha hH hL hLo
    simp only [RV.putAll, Act.put, List.setIfInBounds_toArray, List.set_cons_zero, List.set_cons_succ, Nat.zero_add, Nat.reduceAdd, y0, y1, y2, y3, y4, y5, y6, y7, y8]
    clear y0 y1 y2 y3 y4 y5 y6 y7 y8
    have hB5 := hBV.trans (hb8.mono hBV.size)
    have p0 := c_after hb8 V0_0
    have p1 := c_after hb8 V0_1
    have p2 := c_after hb8 V0_2
    have q0 := c_after hb8 V1_0
    have q1 := c_after hb8 V1_1
    have q2 := c_after hb8 V1_2
    have k0 := f_after hb8 V1_0 Vf1_0
    have k1 := f_after hb8 V1_1 Vf1_1
    have k2 := f_after hb8 V1_2 Vf1_2
    by_cases h0 : m2 = 0
    · have h0' : (m2 : Int) = 0 := by omega
      have e : r = ⟨x, y, z⟩ := by rw [HL.out, if_pos h0]
      subst e
      clear HL HD G1 G2 h0
      go_wp2_with (fail)
      refine bodyPost_ret (v := .agg #[.int .i64 x, .int .i64 y, .int .i64 z]) (by simp [results, Tryz.results118, go_sem, q0, q1, q2]) rfl ⟨rfl, ?_⟩
      exact (((hB5.setCell (by simp) _).setCell (by simp) _).setCell (by simp) _)
    · have h0' : ¬ (m2 : Int) = 0 := by omega
      have e : r = Pt.by ⟨x, y, z⟩ m2 := by rw [HL.out, if_neg h0]
      have HD : Hid _ := HD.out h0
      rw [← e] at HD
      obtain ⟨rx, ry, rz⟩ := r
      clear e HL G1 G2
      dsimp only at *
      go_wp2_with (fail)
      refine Calls.mono (HD.out _) ?_
      clear HD
      rintro e W9 ⟨rfl, hb9⟩
      have q0 := c_after hb9 q0
      have q1 := c_after hb9 q1
      have q2 := c_after hb9 q2
      have k0 := f_after hb9 (c_after hb8 V1_0) k0
      have k1 := f_after hb9 (c_after hb8 V1_1) k1
      have k2 := f_after hb9 (c_after hb8 V1_2) k2
      go_wp2
      refine bodyPost_ret (v := .agg #[.int .i64 rx, .int .i64 ry, .int .i64 rz]) (by simp [results, Tryz.results118, go_sem, q0, q1, q2]) rfl ⟨rfl, ?_⟩
      exact ((((b_step hB5 hb9).setCell (by simp) _).setCell (by simp) _).setCell (by simp) _)
theorem halveF_step (k : Nat) (q : Pt) (h : q.inB 1048576 = false) (hb : q.inB (2 ^ k : Nat) = true) : ∃ j, k = j + 1 ∧ halveF k q = halveF j (q.by 2) ∧ (q.by 2).inB (2 ^ j : Nat) = true := by
  cases k with
  | zero => rw [inB_mono hb (by decide)] at h; cases h
  | succ j =>
    refine ⟨j, rfl, by rw [halveF, if_neg (by rw [h]; decide)], half_in ?_⟩
    rw [Nat.pow_succ, Nat.mul_comm, Int.natCast_mul] at hb
    exact hb
theorem cast_pow (k : Nat) (h : k ≤ 43) : (((2 ^ k : Nat) : Nat) : Int) ≤ 8796093022208 := by
  have := Nat.pow_le_pow_right (n := 2) (by decide) h
  have e : 2 ^ 43 = 8796093022208 := by decide
  omega
set_option maxHeartbeats 1000000 in
set_option maxRecDepth 100000 in
theorem short_any (p : Pt) (w0 : World) :
    Calls Tryz.prog 87 #[p.v] w0 fun e W => e = .returned p.short.v ∧ Below w0.heap.size w0 W := by
  have HW : Hid (∀ w', Calls Tryz.prog 117 #[p.v, .int .i64 4398046511104] w' fun e W => e = .returned (.bool (p.inB 4398046511104)) ∧ Below w'.heap.size w' W) := fun w' => within_any p _ w' (by decide) (by decide)
  have HX : Hid (∀ q : Pt, ∀ w', Calls Tryz.prog 117 #[q.v, .int .i64 1048576] w' fun e W => e = .returned (.bool (q.inB 1048576)) ∧ Below w'.heap.size w' W) := fun q w' => within_any q _ w' (by decide) (by decide)
  have HLO : Hid (∀ q : Pt, q.inB 4398046511104 = true → ∀ w', Calls Tryz.prog 118 #[q.v] w' fun e W => e = .returned q.low.v ∧ Below w'.heap.size w' W) := fun q hq w' => lowest_any q w' hq
  have HD : Hid (∀ q : Pt, q.inB 1152921504606846976 = true → ∀ w', Calls Tryz.prog 119 #[q.v, .int .i64 2] w' fun e W => e = .returned (q.by 2).v ∧ Below w'.heap.size w' W) := fun q hq w' => divided_any q 2 w' hq (by decide) (by decide)
  have bx0 : Hid (Box3 ((w0.alloc (.cells #[.int .i64 p.x, .int .i64 p.y, .int .i64 p.z] 31)).alloc (.cells #[.int .i64 0, .int .i64 0, .int .i64 0] 31)) w0.heap.size p) := (Box3.new w0 p.x p.y p.z _).step (n_after _ _)
  have bx1 : Hid (Box3 ((w0.alloc (.cells #[.int .i64 p.x, .int .i64 p.y, .int .i64 p.z] 31)).alloc (.cells #[.int .i64 0, .int .i64 0, .int .i64 0] 31)) (w0.heap.size + 1) Pt.O) := by have := Box3.new (w0.alloc (.cells #[.int .i64 p.x, .int .i64 p.y, .int .i64 p.z] 31)) 0 0 0 31; rwa [World.size_alloc] at this
  have hB0 : Hid (Below w0.heap.size w0 ((w0.alloc (.cells #[.int .i64 p.x, .int .i64 p.y, .int .i64 p.z] 31)).alloc (.cells #[.int .i64 0, .int .i64 0, .int .i64 0] 31))) := b_step (n_after w0 _) (n_after _ _)
  obtain ⟨r, hr⟩ : ∃ r, p.short = r := ⟨_, rfl⟩
  rw [hr]
  have HR : Hid _ := hr
  clear hr
  unfold Pt.v at *
  go_enter Tryz.func87, Tryz.ntmps87
  go_wp2_with (fail)
  refine Calls.mono (HW.out _) ?_
  clear HW
  rintro e V ⟨rfl, hb⟩
  have b0 : Hid _ := bx0.out.step hb
  have b1 : Hid _ := bx1.out.step hb
  have hB : Hid _ := b_step hB0.out hb
  clear bx0 bx1 hB0 hb
  cases hin : p.inB 4398046511104 with
  | false =>
    have e : r = Pt.O := by rw [← HR.out]; unfold Pt.short; rw [if_neg (by rw [hin]; decide)]
    clear HR
    subst e
    obtain ⟨c0, c1, c2, f0, f1, f2⟩ := b1.out
    simp only [Pt.O] at c0 c1 c2
    go_wp2_with (fail)
    refine bodyPost_ret (v := .agg #[.int .i64 0, .int .i64 0, .int .i64 0]) (by simp [results, Tryz.results87, go_sem, c0, c1, c2]) rfl ⟨rfl, ?_⟩
    exact set3_below hB.out (by omega) 0 0 0
  | true =>
    have hlow := Pt.low_in hin
    have HR : Hid (r = (halveF 43 p.low).low) := by show _ = _; rw [← HR.out]; unfold Pt.short; rw [if_pos hin]; rfl
    have HL1 : Hid _ := HLO.out p hin
    obtain ⟨c0, c1, c2, f0, f1, f2⟩ := b0.out
    go_wp2_with (fail)
    refine Calls.mono (HL1.out _) ?_
    clear HL1
    rintro e V2 ⟨rfl, hb⟩
    have b0 : Hid (Box3 (set3 V2 w0.heap.size p.low.x p.low.y p.low.z) w0.heap.size p.low) := (b0.out.step hb).set _ _ _
    have b1 : Hid (Box3 (set3 V2 w0.heap.size p.low.x p.low.y p.low.z) (w0.heap.size + 1) Pt.O) := (b1.out.step hb).other (by omega) _ _ _
    have hB : Hid (Below w0.heap.size w0 (set3 V2 w0.heap.size p.low.x p.low.y p.low.z)) := set3_below (b_step hB.out hb) (Nat.le_refl _) _ _ _
    have d0 := c_after hb c0
    have d1 := c_after hb c1
    have d2 := c_after hb c2
    have f0 := f_after hb c0 f0
    have f1 := f_after hb c1 f1
    have f2 := f_after hb c2 f2
    unfold set3 at b0 b1 hB
    clear hb c0 c1 c2
    go_wp2_with (fail)
    clear d0 d1 d2 f0 f1 f2
    have hL2 : p.low.inB (2 ^ 43 : Nat) = true := inB_mono hlow (by decide)
    go_loopg [] 43 (fun g wr => ∃ q : Pt, Hid (Box3 wr w0.heap.size q) ∧ Hid (Box3 wr (w0.heap.size + 1) Pt.O) ∧ Hid (Below w0.heap.size w0 wr) ∧ g ≤ 43 ∧ Hid (halveF g q = halveF 43 p.low) ∧ Hid (q.inB (2 ^ g : Nat) = true))
    case atStart => exact ⟨p.low, b0, b1, hB, Nat.le_refl _, rfl, hL2⟩
    case round =>
      clear b0 b1 hB hL2
      obtain ⟨q, b0, b1, hB, hg, HF, HI⟩ := hrel
      have hG : Hid _ := hg
      clear hg
      obtain ⟨c0, c1, c2, f0, f1, f2⟩ := b0.out
      go_wp2_with (fail)
      refine Calls.mono (HX.out q _) ?_
      rintro e V3 ⟨rfl, hb⟩
      clear c0 c1 c2 f0 f1 f2
      have b0 : Hid _ := b0.out.step hb
      have b1 : Hid _ := b1.out.step hb
      have hB : Hid _ := b_step hB.out hb
      clear hb
      cases hq : q.inB 1048576 with
      | false =>
        obtain ⟨j, hj, ej, hin2⟩ := halveF_step _ q hq HI.out
        have HJ : Hid _ := And.intro hj (And.intro ej hin2)
        have hq2 : q.inB 1152921504606846976 = true := inB_mono HI.out (by have := cast_pow _ hG.out; omega)
        have HD2 : Hid _ := HD.out q hq2
        clear hj ej hin2 hq2
        obtain ⟨c0, c1, c2, f0, f1, f2⟩ := b0.out
        go_wp2_with (fail)
        refine Calls.mono (HD2.out _) ?_
        clear HD2
        rintro e V4 ⟨rfl, hb⟩
        have b0 : Hid (Box3 (set3 V4 w0.heap.size (q.by 2).x (q.by 2).y (q.by 2).z) w0.heap.size (q.by 2)) := (b0.out.step hb).set _ _ _
        have b1 : Hid (Box3 (set3 V4 w0.heap.size (q.by 2).x (q.by 2).y (q.by 2).z) (w0.heap.size + 1) Pt.O) := (b1.out.step hb).other (by omega) _ _ _
        have hB : Hid (Below w0.heap.size w0 (set3 V4 w0.heap.size (q.by 2).x (q.by 2).y (q.by 2).z)) := set3_below (b_step hB.out hb) (Nat.le_refl _) _ _ _
        have d0 := c_after hb c0
        have d1 := c_after hb c1
        have d2 := c_after hb c2
        have f0 := f_after hb c0 f0
        have f1 := f_after hb c1 f1
        have f2 := f_after hb c2 f2
        unfold set3 at b0 b1 hB
        clear hb c0 c1 c2
        go_wp2_with (fail)
        go_roundg j
        case measure => have := HJ.out.1; omega
        case rel => exact ⟨q.by 2, b0, b1, hB, by have := HJ.out.1; have := hG.out; omega, HJ.out.2.1.symm.trans HF.out, HJ.out.2.2⟩
      | true =>
        have e : r = q.low := by rw [HR.out, ← HF.out, halveF_id _ _ hq]
        have HL1 : Hid _ := HLO.out q (inB_mono hq (by decide))
        rw [← e] at HL1
        clear e HR HF HI HX HLO HD
        obtain ⟨c0, c1, c2, f0, f1, f2⟩ := b0.out
        go_wp2_with (fail)
        refine Calls.mono (HL1.out _) ?_
        clear HL1 c0 c1 c2 f0 f1 f2
        rintro e V4 ⟨rfl, hb⟩
        obtain ⟨c0, c1, c2, f0, f1, f2⟩ := b1.out.step hb
        have hB : Hid _ := b_step hB.out hb
        go_wp2_with (fail)
        refine bodyPost_ret (v := .agg #[.int .i64 r.x, .int .i64 r.y, .int .i64 r.z]) (by simp [results, Tryz.results87, go_sem, c0, c1, c2]) rfl ⟨rfl, ?_⟩
        exact set3_below hB.out (by omega) _ _ _
end Go.Proofs.YtompnibhfdkkjaaGreat
namespace Go.Proofs.YtompnibhfdkkjaaGreat
open Go.RowKit Go.Shelf
set_option linter.unusedVariables false

theorem pt_eq (p q : Pt) : p = q ↔ p.x = q.x ∧ p.y = q.y ∧ p.z = q.z := by cases p; cases q; simp
set_option maxHeartbeats 2000000 in
set_option maxRecDepth 100000 in
theorem index_any (v : Value) (L : List Pt) (p : Pt) (w : World) (hv : Lies w v L) :
    Calls Tryz.prog 131 #[v, p.v] w fun e W => ∃ k : Int, e = .returned (.int .i64 k) ∧ (0 ≤ k ↔ p ∈ L) ∧ Below w.heap.size w W := by
  obtain ⟨o, c, rfl, hlc, hcm, hcell⟩ := hv.form
  have HC : Hid _ := hcell
  have bx : Hid (Box3 (w.alloc (.cells #[.int .i64 p.x, .int .i64 p.y, .int .i64 p.z] 31)) w.heap.size p) := Box3.new w p.x p.y p.z _
  have hB : Hid (Below w.heap.size w (w.alloc (.cells #[.int .i64 p.x, .int .i64 p.y, .int .i64 p.z] 31))) := n_after w _
  clear hv hcell
  unfold Pt.v
  go_enter Tryz.func131, Tryz.ntmps131
  go_wp2_with (fail)
  go_loopw [8] (fun i wr => ∃ k : Nat, i = .int .i64 (k : Int) ∧ k ≤ L.length ∧ Hid (∀ j, j < k → pt L j ≠ p) ∧ Hid (Box3 wr w.heap.size p) ∧ Hid (Below w.heap.size w wr)) (fun i _ => L.length - (intOf i).toNat)
  case atStart => exact ⟨0, rfl, Nat.zero_le _, fun j hj => absurd hj (by omega), bx, hB⟩
  case round =>
    clear bx hB
    obtain ⟨k, rfl, hk, HN, bx, HB⟩ := hrel
    by_cases hlt : k < L.length
    · obtain ⟨g, off, rfl, x0, x1, x2⟩ := HC.out k hlt
      have x0 := c_after HB.out x0
      have x1 := c_after HB.out x1
      have x2 := c_after HB.out x2
      obtain ⟨c0, c1, c2, _, _, _⟩ := bx.out
      have HEQ : Hid (pt L k = p → p ∈ L) := fun e => e ▸ pt_mem hlt
      have HNE : Hid (pt L k ≠ p → ∀ j, j < k + 1 → pt L j ≠ p) := fun e j hj => by
        by_cases ej : j = k
        · subst ej; exact e
        · exact HN.out j (by omega)
      rw [pt_eq] at HEQ
      rw [Ne, pt_eq] at HNE
      generalize (pt L k).x = lx at *
      generalize (pt L k).y = ly at *
      generalize (pt L k).z = lz at *
      by_cases ex : lx = p.x
      · subst ex
        by_cases ey : ly = p.y
        · subst ey
          by_cases ez : lz = p.z
          · subst ez
            go_wp2_with (fail)
            go_region
            go_wp2_with (fail)
            go_ret
            exact ⟨_, rfl, ⟨fun _ => HEQ.out (by simp), fun _ => by omega⟩, HB.out.drew⟩
          · have e1 : (p.z == lz) = false := beq_eq_false_iff_ne.2 fun e => ez e.symm
            go_wp2_with (fail)
            go_region
            go_wp2_with (fail)
            go_roundw
            case rel => exact ⟨k + 1, by go_num, by omega, HNE.out (fun h => ez h.2.2), bx.out.step (Below.refl _ _).drew, HB.out.drew⟩
            case measure => simp [intOf]; omega
        · have e1 : (p.y == ly) = false := beq_eq_false_iff_ne.2 fun e => ey e.symm
          go_wp2_with (fail)
          go_region
          go_wp2_with (fail)
          go_roundw
          case rel => exact ⟨k + 1, by go_num, by omega, HNE.out (fun h => ey h.2.1), bx.out.step (Below.refl _ _).drew, HB.out.drew⟩
          case measure => simp [intOf]; omega
      · have e1 : (p.x == lx) = false := beq_eq_false_iff_ne.2 fun e => ex e.symm
        go_wp2_with (fail)
        go_region
        go_wp2_with (fail)
        go_roundw
        case rel => exact ⟨k + 1, by go_num, by omega, HNE.out (fun h => ex h.1), bx.out.step (Below.refl _ _).drew, HB.out.drew⟩
        case measure => simp [intOf]; omega
    · have e : k = L.length := by omega
      have HX : Hid (p ∉ L) := fun hp => by
        obtain ⟨j, hj, ej⟩ := pt_of_mem hp
        exact HN.out j (by omega) ej
      clear e
      go_wp2_with (fail)
      go_ret
      exact ⟨_, rfl, ⟨fun h => absurd h (by decide), fun h => absurd h HX.out⟩, HB.out⟩
set_option maxHeartbeats 1000000 in
theorem contains_any (v : Value) (L : List Pt) (p : Pt) (w : World) (hv : Lies w v L) :
    Calls Tryz.prog 116 #[v, p.v] w fun e W => e = .returned (.bool (decide (p ∈ L))) ∧ Below w.heap.size w W := by
  have HI : Hid _ := index_any v L p (w.alloc (.cells #[.int .i64 p.x, .int .i64 p.y, .int .i64 p.z] 31)) (hv.below (n_after w _))
  obtain ⟨o, c, rfl, _⟩ := hv.form
  unfold Pt.v at *
  clear hv
  go_enter Tryz.func116, Tryz.ntmps116
  go_wp2_with (fail)
  refine Calls.mono HI.out ?_
  clear HI
  rintro e V ⟨k, rfl, hk, hb⟩
  have hB := b_step (n_after w _) hb
  clear hb
  have HK : Hid _ := hk
  clear hk
  go_wp2_with (fail)
  go_ret
  exact ⟨congrArg (fun b => Ending.returned (.bool b)) (by rw [Bool.eq_iff_iff, decide_eq_true_eq, decide_eq_true_eq]; exact HK.out), hB⟩
set_option maxHeartbeats 1000000 in
set_option maxRecDepth 100000 in
theorem withAxis_any (B : Nat) (u : Value) (A : List Pt) (n : Pt) (w : World) (ho : w.ownsRow B 31 3 u A.length (fl3 A)) (hB : B ≤ w.heap.size) (hl : A.length ≤ 100000) :
    Calls Tryz.prog 86 #[u, n.v] w fun e W => ∃ u', e = .returned u' ∧ W.ownsRow B 31 3 u' (withAxisP A n).length (fl3 (withAxisP A n)) ∧ Grew w W u u' := by
  obtain ⟨i0, hii, hiz, hisz, hib⟩ := info_parts point_info
  have HI : Hid _ := And.intro hii (And.intro hiz (And.intro hisz hib))
  clear hii hiz hisz hib
  have HC : Hid _ := contains_any u A n (w.alloc (.cells #[.int .i64 n.x, .int .i64 n.y, .int .i64 n.z] 31)) ((Lies.of_row ho).below (n_after w _))
  have bx : Hid (Box3 (w.alloc (.cells #[.int .i64 n.x, .int .i64 n.y, .int .i64 n.z] 31)) w.heap.size n) := Box3.new w n.x n.y n.z _
  obtain ⟨o, c, hu, _⟩ := (Lies.of_row ho).form
  have HO : Hid _ := ho
  clear ho
  obtain ⟨R, hR⟩ : ∃ R, withAxisP A n = R := ⟨_, rfl⟩
  rw [hR]
  have HR : Hid _ := hR
  clear hR
  unfold Pt.v at *
  subst hu
  go_enter Tryz.func86, Tryz.ntmps86
  go_wp2_with (fail)
  refine Calls.mono HC.out ?_
  clear HC
  rintro e V ⟨rfl, hb⟩
  have hBV : Hid _ := b_step (n_after w _) hb
  have HO : Hid _ := own_below HO.out hBV.out
  have bx : Hid _ := bx.out.step hb
  clear hb
  by_cases hm : n ∈ A
  · have e : A = R := by rw [← HR.out]; unfold withAxisP; rw [if_pos hm]
    have hd : decide (n ∈ A) = true := decide_eq_true hm
    rw [hd]
    clear HR
    subst e
    clear hm hd
    go_wp2_with (fail)
    go_ret
    exact ⟨_, rfl, HO.out, Grew.below hBV.out _⟩
  · have e : R = A ++ [n] := by rw [← HR.out]; unfold withAxisP; rw [if_neg hm]
    have hd : decide (n ∈ A) = false := decide_eq_false hm
    rw [hd]
    clear HR
    subst e
    clear hm hd
    obtain ⟨c0, c1, c2, _, _, _⟩ := bx.out
    have hsz := hBV.out.size
    go_wp2_with (at_builtin; refine wpList_append_own_at _ rfl _ _ 22 rfl B 31 i0 _ 3 24 Tryz.underlying22 HI.out.1 HI.out.2.1 HI.out.2.2.1 HI.out.2.2.2 rfl (by decide) _ _ _ rfl (own_below HO.out (n_after V _)) ⟨V.heap.size, 0, none⟩ 1 1 [.int .i64 n.x, .int .i64 n.y, .int .i64 n.z] rfl rfl (news_at (heap_alloc_new V _)) (by intro u hu; simp at hu; rcases hu with rfl | rfl | rfl <;> rfl) (by unfold maxLen; omega) (by omega) (by simp; omega) ?_; intro u9 V2 r8 g8 _ s8)
    go_ret
    refine ⟨_, rfl, by rw [fl3_append, List.length_append]; exact r8, (Grew.below (b_step hBV.out (n_after V _)) _).trans ⟨g8, ?_⟩⟩
    rcases s8 with e | e
    · exact Or.inl e
    · exact Or.inr ⟨_, e, Nat.le_refl _⟩
end Go.Proofs.YtompnibhfdkkjaaGreat
namespace Go.Proofs.YtompnibhfdkkjaaGreat
open Go.RowKit Go.Shelf
set_option linter.unusedVariables false

theorem own_set3 {W : World} {base : Nat} {t : TypeId} {sz n : Nat} {u : Value} {xs : List Value} {b : Nat} (h : W.ownsRow base t sz u n xs) (hne : u.ownBlock ≠ some b) (x y z : Int) : (set3 W b x y z).ownsRow base t sz u n xs :=
  ownsRow_setCell_other (ownsRow_setCell_other (ownsRow_setCell_other h hne _) hne _) hne _
/-- Three cells a point, from a block's beginning on. -/
def At (W : World) (g : Nat) (M : List Pt) : Prop := ∀ i, i < M.length → W.cell? ⟨g, i * 3, none⟩ = some (.int .i64 (pt M i).x) ∧ W.cell? ⟨g, i * 3 + 1, none⟩ = some (.int .i64 (pt M i).y) ∧ W.cell? ⟨g, i * 3 + 2, none⟩ = some (.int .i64 (pt M i).z)
theorem At.below {w W : World} {g : Nat} {M : List Pt} (h : At w g M) (hb : Below w.heap.size w W) : At W g M := fun i hi => ⟨c_after hb (h i hi).1, c_after hb (h i hi).2.1, c_after hb (h i hi).2.2⟩
theorem At.grown {w W : World} {g : Nat} {M : List Pt} {row : Option Nat} (h : At w g M) (hg : w.grownBy W row) (hne : row ≠ some g) : At W g M := fun i hi =>
  ⟨hg.cell (h i hi).1 (fun e => hne e.symm), hg.cell (h i hi).2.1 (fun e => hne e.symm), hg.cell (h i hi).2.2 (fun e => hne e.symm)⟩
theorem At.set3 {w : World} {g b : Nat} {M : List Pt} (h : At w g M) (hne : g ≠ b) (x y z : Int) : At (set3 w b x y z) g M := by
  intro i hi
  obtain ⟨a, b, c⟩ := h i hi
  unfold Go.Proofs.YtompnibhfdkkjaaGreat.set3
  exact ⟨by simp [go_sem, a], by simp [go_sem, b], by simp [go_sem, c]⟩
theorem edges_snoc (E M : List Pt) (k : Nat) (hk : k < M.length) : withEdgesP E (M.take (k + 1)) = withEdgeP (withEdgesP E (M.take k)) (pt M k) := by
  unfold withEdgesP
  rw [take_pt hk, List.foldl_append]; rfl
theorem edges_len (E M : List Pt) : (withEdgesP E M).length ≤ E.length + M.length := by
  unfold withEdgesP
  induction M generalizing E with
  | nil => simp
  | cons m r ih =>
    have := ih (withEdgeP E m)
    have h2 : (withEdgeP E m).length ≤ E.length + 1 := by unfold withEdgeP; split <;> simp
    simp only [List.foldl_cons, List.length_cons]
    omega
/-- A round's end: what is told of the list, of the others, and of the world. -/
structure ER (w wr : World) (B : Nat) (u0 u : Value) (g : Nat) (M E : List Pt) : Prop where
  row : wr.ownsRow B 31 3 u E.length (fl3 E)
  more : At wr g M
  off : u.ownBlock ≠ some g
  grew : Grew w wr u0 u
  gl : g < w.heap.size
theorem ER.below {w wr W : World} {B : Nat} {u0 u : Value} {g : Nat} {M E : List Pt} (h : ER w wr B u0 u g M E) (hb : Below wr.heap.size wr W) : ER w W B u0 u g M E :=
  ⟨own_below h.row hb, h.more.below hb, h.off, h.grew.trans (Grew.below hb _), h.gl⟩
theorem ER.set {w wr : World} {B : Nat} {u0 u : Value} {g b : Nat} {M E : List Pt} (h : ER w wr B u0 u g M E) (hu : u.ownBlock ≠ some b) (hb : w.heap.size ≤ b) (x y z : Int) : ER w (set3 wr b x y z) B u0 u g M E := by
  refine ⟨own_set3 h.row hu _ _ _, h.more.set3 (by have := h.gl; omega) _ _ _, h.off, ⟨?_, h.grew.same⟩, h.gl⟩
  have hb3 : Below b wr (set3 wr b x y z) := set3_below (Below.refl _ _) (Nat.le_refl _) _ _ _
  refine ⟨hb3.os.trans h.grew.grown.os, hb3.tape.trans h.grew.grown.tape, hb3.output.trans h.grew.grown.output, Nat.le_trans h.grew.grown.size hb3.size, fun k hk hn => (hb3.block k (by omega)).trans (h.grew.grown.block k hk hn)⟩
theorem ER.app {w wr W : World} {B : Nat} {u0 u u' : Value} {g : Nat} {M E E' : List Pt} (h : ER w wr B u0 u g M E) (hr : W.ownsRow B 31 3 u' E'.length (fl3 E')) (hg : Grew wr W u u') : ER w W B u0 u' g M E' := by
  refine ⟨hr, h.more.grown hg.grown h.off, ?_, h.grew.trans hg, h.gl⟩
  rcases hg.same with e | ⟨k, e, hk⟩
  · rw [e]; exact h.off
  · rw [e]; intro e'; cases e'; have := h.grew.grown.size; have := h.gl; omega
theorem ER.lt {w wr : World} {B : Nat} {u0 u : Value} {g : Nat} {M E : List Pt} (h : ER w wr B u0 u g M E) {b : Nat} (hb : wr.heap.size ≤ b) : u.ownBlock ≠ some b := fun e => by have := (h.row.lt b e).2; omega

set_option maxHeartbeats 2000000 in
set_option maxRecDepth 100000 in
theorem withEdges_any (B g : Nat) (u : Value) (E M : List Pt) (w : World) (ho : w.ownsRow B 31 3 u E.length (fl3 E)) (hm : At w g M) (hoff : u.ownBlock ≠ some g) (hgl : g < w.heap.size) (hB : B ≤ w.heap.size) (hl : E.length ≤ 100000) (hM : M.length ≤ 100) :
    Calls Tryz.prog 88 #[u, .slice (some ⟨g, 0, none⟩) M.length M.length] w fun e W => ∃ u', e = .returned u' ∧ W.ownsRow B 31 3 u' (withEdgesP E M).length (fl3 (withEdgesP E M)) ∧ Grew w W u u' := by
  obtain ⟨i0, hii, hiz, hisz, hib⟩ := info_parts point_info
  have HI : Hid _ := And.intro hii (And.intro hiz (And.intro hisz hib))
  clear hii hiz hisz hib
  have HE : Hid (ER w w B u u g M E) := ⟨ho, hm, hoff, Grew.refl _ _, hgl⟩
  obtain ⟨o, c, hu, _⟩ := (Lies.of_row ho).form
  clear ho hm hoff
  subst hu
  go_enter Tryz.func88, Tryz.ntmps88
  go_wp2_with (fail)
  go_loopg [0, 9] M.length (fun gm u i wr => ∃ (k : Nat) (D : List Pt) (oo : Option Addr) (cc : Nat), i = .int .i64 (k : Int) ∧ k ≤ M.length ∧ gm = M.length - k ∧ u = .slice oo D.length cc ∧ D.length ≤ 100000 + k ∧ Hid (D = withEdgesP E (M.take k)) ∧ Hid (ER w wr B (.slice o E.length c) (.slice oo D.length cc) g M D))
  case atStart => exact ⟨0, E, o, c, rfl, Nat.zero_le _, rfl, rfl, by omega, by show _ = _; simp [withEdgesP], HE⟩
  case round =>
    clear HE
    obtain ⟨k, D, oo, cc, rfl, hk, hgm, rfl, hD, HD, HE⟩ := hrel
    have HG : Hid _ := hgm
    clear hgm
    by_cases hlt : k < M.length
    · obtain ⟨x0, x1, x2⟩ := HE.out.more k hlt
      have hgw := World.block_lt_of_cell? _ _ x0
      have HS : Hid (withEdgeP D (pt M k) = withEdgesP E (M.take (k + 1))) := by show _ = _; rw [edges_snoc E M k hlt, HD.out]
      clear HD
      generalize pt M k = m at *
      have hws : w.heap.size ≤ wr.heap.size := HE.out.grew.grown.size
      have HSH : Hid _ := short_any m (wr.alloc (.cells #[.int .i64 m.x, .int .i64 m.y, .int .i64 m.z] 31))
      have bx : Hid (Box3 (wr.alloc (.cells #[.int .i64 m.x, .int .i64 m.y, .int .i64 m.z] 31)) wr.heap.size m) := Box3.new wr m.x m.y m.z _
      have hsin := short_in m
      have HWE : Hid (withEdgeP D m = if m.short ∈ D ∨ m.short.neg ∈ D then D else D ++ [m.short]) := rfl
      generalize m.short = s at *
      unfold Pt.v at HSH
      go_wp2_with (fail)
      refine Calls.mono HSH.out ?_
      clear HSH x0 x1 x2
      rintro e V ⟨rfl, hb⟩
      have bx := bx.out.step hb
      obtain ⟨c0, c1, c2, f0, f1, f2⟩ := bx
      have bx := (Box3.mk c0 c1 c2 f0 f1 f2).set s.x s.y s.z
      have HE1 : Hid _ := (HE.out.below (b_step (n_after wr _) hb)).set (HE.out.lt (Nat.le_refl _)) hws s.x s.y s.z
      have hsz := (b_step (n_after wr _) hb).size
      clear HE hb
      obtain ⟨V2, hV2⟩ : ∃ V2 : World, V2 = set3 V wr.heap.size s.x s.y s.z := ⟨_, rfl⟩
      have hs2 : V2.heap.size = V.heap.size := by rw [hV2]; exact set3_size _ _ _ _ _
      rw [← hV2] at HE1 bx
      unfold set3 at hV2
      go_wp2_with (fail)
      rw [← hV2]
      clear hV2 c0 c1 c2 f0 f1 f2
      have bx : Hid _ := bx
      refine Calls.mono (contains_any _ D s V2 (Lies.of_row HE1.out.row)) ?_
      rintro e V3 ⟨rfl, hb⟩
      have HE1 : Hid _ := HE1.out.below hb
      have bx : Hid _ := bx.out.step hb
      have hsz : wr.heap.size ≤ V3.heap.size := by have := hb.size; omega
      clear hb hs2
      by_cases h1 : s ∈ D
      · have e : D = withEdgesP E (M.take (k + 1)) := by rw [← HS.out, HWE.out, if_pos (Or.inl h1)]
        have hd : decide (s ∈ D) = true := decide_eq_true h1
        rw [hd]
        have HE2 : Hid _ := e
        clear HS HWE h1 hd e
        go_wp2_with (fail)
        go_roundg (M.length - (k + 1))
        case measure => have := HG.out; omega
        case rel => exact ⟨k + 1, D, oo, cc, by go_num, by omega, rfl, rfl, by omega, HE2, HE1⟩
      · have hd : decide (s ∈ D) = false := decide_eq_false h1
        rw [hd]
        obtain ⟨c0, c1, c2, _, _, _⟩ := bx.out
        go_wp2_with (fail)
        refine Calls.mono (back_any s _ (inB_mono hsin (by decide))) ?_
        rintro e V4 ⟨rfl, hb⟩
        have HE1 : Hid _ := HE1.out.below hb
        have bx : Hid _ := bx.out.step hb
        have hsz : wr.heap.size ≤ V4.heap.size := by have := hb.size; omega
        clear hb c0 c1 c2
        unfold Pt.v
        go_wp2_with (fail)
        refine Calls.mono (contains_any _ D s.neg V4 (Lies.of_row HE1.out.row)) ?_
        rintro e V5 ⟨rfl, hb⟩
        have HE1 : Hid _ := HE1.out.below hb
        have bx : Hid _ := bx.out.step hb
        have hsz : wr.heap.size ≤ V5.heap.size := by have := hb.size; omega
        clear hb
        by_cases h2 : s.neg ∈ D
        · have e : D = withEdgesP E (M.take (k + 1)) := by rw [← HS.out, HWE.out, if_pos (Or.inr h2)]
          have hd2 : decide (s.neg ∈ D) = true := decide_eq_true h2
          rw [hd2]
          have HE2 : Hid _ := e
          clear HS HWE h1 hd hd2 h2 e
          go_wp2_with (fail)
          go_roundg (M.length - (k + 1))
          case measure => have := HG.out; omega
          case rel => exact ⟨k + 1, D, oo, cc, by go_num, by omega, rfl, rfl, by omega, HE2, HE1⟩
        · have e : D ++ [s] = withEdgesP E (M.take (k + 1)) := by rw [← HS.out, HWE.out, if_neg (fun h => h.elim h1 h2)]
          have hd2 : decide (s.neg ∈ D) = false := decide_eq_false h2
          rw [hd2]
          have HE2 : Hid _ := e
          clear HS HWE h1 hd hd2 h2 e
          obtain ⟨c0, c1, c2, _, _, _⟩ := bx.out
          go_wp2_with (at_builtin; refine wpList_append_own_at _ rfl _ _ 22 rfl B 31 i0 _ 3 24 Tryz.underlying22 HI.out.1 HI.out.2.1 HI.out.2.2.1 HI.out.2.2.2 rfl (by decide) _ _ _ rfl (own_below HE1.out.row (n_after V5 _)) ⟨V5.heap.size, 0, none⟩ 1 1 [.int .i64 s.x, .int .i64 s.y, .int .i64 s.z] rfl rfl (news_at (heap_alloc_new V5 _)) (by intro u hu; simp at hu; rcases hu with rfl | rfl | rfl <;> rfl) (by unfold maxLen; omega) (by omega) (by simp; omega) ?_; intro u9 V6 r8 g8 _ s8; obtain ⟨gg8, kk8, rfl⟩ := ownsRow_succ r8; have HE3 : Hid _ := (HE1.out.below (n_after V5 _)).app (E' := D ++ [s]) (by rw [fl3_append, List.length_append]; exact r8) ⟨g8, (by rcases s8 with e | e; exact Or.inl e; exact Or.inr ⟨_, e, Nat.le_refl _⟩)⟩; clear r8 g8 s8)
          go_roundg (M.length - (k + 1))
          case measure => have := HG.out; omega
          case rel => exact ⟨k + 1, D ++ [s], some ⟨gg8, 0, none⟩, kk8, by go_num, by omega, rfl, by rw [List.length_append]; rfl, by rw [List.length_append]; simp; omega, HE2, by rw [List.length_append]; exact HE3⟩
    · have e : D = withEdgesP E M := by rw [HD.out, List.take_of_length_le (by omega)]
      have HE2 : Hid _ := e
      clear e HD
      go_wp2_with (fail)
      go_ret
      exact ⟨_, rfl, by rw [← HE2.out]; exact HE.out.row, HE.out.grew⟩
end Go.Proofs.YtompnibhfdkkjaaGreat
