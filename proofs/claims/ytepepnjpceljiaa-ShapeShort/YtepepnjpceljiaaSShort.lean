/- Directions are made short as the document says; what is short stays so, and the other way round comes out turned: for every direction. -/
import Derived.Test.YtepepnjpceljiaaShM
import Derived.Test.YtepepnjpceljiaaRSh
import Derived.Test.YtepepnjpceljiaaOpenP
import Derived.Test.YtepepnjpceljiaaRows
import Derived.ProofKit
import Derived.OpenShut
namespace Go.Proofs.Ytepepnjpceljiaa
namespace shapeShort
open Go.ChangeShapes Go.WideShapes Go.ChangeAt Go.RowKit
set_option linter.unusedVariables false

theorem iwrap {n : Int} (h1 : -9223372036854775808 ≤ n) (h2 : n ≤ 9223372036854775807) : IntKind.i64.wrap n = n := by rw [IntKind.wrap_i64]; omega
theorem own : ownKnob Try.prog.godebug = none := by kernel_rfl
set_option maxHeartbeats 2000000 in
set_option maxRecDepth 100000 in
theorem walk (x y z : Int) (hx : -9223372036854775808 ≤ x ∧ x ≤ 9223372036854775807) (hy : -9223372036854775808 ≤ y ∧ y ≤ 9223372036854775807) (hz : -9223372036854775808 ≤ z ∧ z ≤ 9223372036854775807) (w0 : World) :
    Calls Try.prog 5 #[.agg #[.int .i64 x, .int .i64 y, .int .i64 z]] w0 fun e w' => e = .returned (.bool true) ∧ Below w0.heap.size w0 w' := by
  have HS : Hid (∀ W : World, Calls Try.prog 20 #[.agg #[.int .i64 x, .int .i64 y, .int .i64 z]] W fun e W' => e = .returned (Pt.short ⟨x, y, z⟩).v ∧ Below W.heap.size W W') := fun W => short_any ⟨x, y, z⟩ W
  have HR : Hid (∀ W : World, Calls Try.prog 21 #[.agg #[.int .i64 x, .int .i64 y, .int .i64 z]] W fun e W' => e = .returned (Pt.short ⟨x, y, z⟩).v ∧ Below W.heap.size W W') := fun W => rshort_any ⟨x, y, z⟩ W
  have HS2 : Hid (∀ W : World, Calls Try.prog 20 #[(Pt.short ⟨x, y, z⟩).v] W fun e W' => e = .returned (Pt.short ⟨x, y, z⟩).v ∧ Below W.heap.size W W') := fun W => by
    have := short_any (Pt.short ⟨x, y, z⟩) W
    rw [short_again] at this; exact this
  have HR2 : Hid (∀ W : World, Calls Try.prog 21 #[(Pt.short ⟨x, y, z⟩).v] W fun e W' => e = .returned (Pt.short ⟨x, y, z⟩).v ∧ Below W.heap.size W W') := fun W => by
    have := rshort_any (Pt.short ⟨x, y, z⟩) W
    rw [short_again] at this; exact this
  have HN : Hid (∀ W : World, Calls Try.prog 20 #[.agg #[.int .i64 (-x), .int .i64 (-y), .int .i64 (-z)]] W fun e W' => e = .returned (Pt.short ⟨x, y, z⟩).neg.v ∧ Below W.heap.size W W') := fun W => by
    have := short_any (Pt.neg ⟨x, y, z⟩) W
    rw [neg_short] at this; exact this
  have hin := short_in ⟨x, y, z⟩
  rw [Pt.inB_iff] at hin
  generalize Pt.short ⟨x, y, z⟩ = q at *
  obtain ⟨qx, qy, qz⟩ := q
  unfold Pt.neg at HN
  unfold Pt.v at *
  dsimp only at *
  have AW : Hid _ := fun W => awake5_any W
  have bx : Hid (Box3 (w0.alloc (.cells #[.int .i64 x, .int .i64 y, .int .i64 z] 23)) w0.heap.size ⟨x, y, z⟩) := Box3.new w0 x y z _
  have hB : Hid (Below w0.heap.size w0 (w0.alloc (.cells #[.int .i64 x, .int .i64 y, .int .i64 z] 23))) := n_after w0 _
  go_enter Try.func5, Try.ntmps5
  go_wp2_with (fail)
  refine Calls.mono (AW.out _) ?_
  clear AW
  rintro e V ⟨rfl, hb⟩
  have bp : Hid _ := bx.out.step hb
  have hD : Hid _ := b_step hB.out hb
  clear hb bx hB
  obtain ⟨c0, c1, c2, _, _, _⟩ := bp.out
  dsimp only at c0 c1 c2
  go_wp2_with (fail)
  refine Calls.mono (HS.out _) ?_
  rintro e V1 ⟨rfl, hb⟩
  have bp : Hid _ := bp.out.step hb
  have hD : Hid _ := b_step hD.out hb
  clear hb c0 c1 c2
  go_upto_region 3 with fail
  obtain ⟨V2, hV2⟩ : ∃ V2 : World, V2 = V1.alloc (.cells #[.int .i64 qx, .int .i64 qy, .int .i64 qz] 23) := ⟨_, rfl⟩
  obtain ⟨bq, hbq⟩ : ∃ bq, bq = V1.heap.size := ⟨_, rfl⟩
  have bQ : Hid (Box3 (V1.alloc (.cells #[.int .i64 qx, .int .i64 qy, .int .i64 qz] 23)) V1.heap.size ⟨qx, qy, qz⟩) := Box3.new V1 qx qy qz _
  have hX : Below V1.heap.size V1 V2 := by rw [hV2]; exact n_after _ _
  rw [← hV2, ← hbq] at bQ ⊢
  clear hV2 hbq
  have bp : Hid _ := bp.out.step hX
  have hD : Hid _ := b_step hD.out hX
  clear hX
  obtain ⟨bb, hbb⟩ : ∃ bb, bb = w0.heap.size := ⟨_, rfl⟩
  rw [← hbb] at bp ⊢
  clear hbb
  obtain ⟨p0, p1, p2, _, _, _⟩ := bp.out
  obtain ⟨q0, q1, q2, _, _, _⟩ := bQ.out
  dsimp only at p0 p1 p2 q0 q1 q2
  refine RV.region_by (fun j v w => match j with | 0 => v = .bool (true) | 1 => v = .bool (false) | 2 => v = .bool (false) | 3 => v = .agg #[.int .i64 (qx), .int .i64 (qy), .int .i64 (qz)] | 4 => v = .agg #[.int .i64 (x), .int .i64 (y), .int .i64 (z)] | 5 => v = .agg #[.int .i64 (qx), .int .i64 (qy), .int .i64 (qz)] | 6 => v = .bool (false) | 7 => v = .bool (false) | 8 => v = .bool (false) | 9 => v = .agg #[.int .i64 (qx), .int .i64 (qy), .int .i64 (qz)] | 10 => v = .agg #[.int .i64 (qx), .int .i64 (qy), .int .i64 (qz)] | 11 => v = .agg #[.int .i64 (qx), .int .i64 (qy), .int .i64 (qz)] | 12 => v = .agg #[.int .i64 (qx), .int .i64 (qy), .int .i64 (qz)] | 13 => v = .bool (false) | 14 => v = .bool (false) | _ => True) (fun γ L w9 => Below V2.heap.size V2 w9) (by kernel_rfl) (by kernel_rfl) (by kernel_rfl) (by kernel_rfl) ?_ ?_ ?_
  · exact (Below.refl _ V2).drew
  · generalize hD : dstOf _ = D
    generalize hWA : waitsFor _ = WA
    generalize hZ : Act.mk _ _ = Z
    obtain ⟨R, hR⟩ : ∃ R : Nat → Value → World → Prop, R = (fun j v w => match j with | 0 => v = .bool (true) | 1 => v = .bool (false) | 2 => v = .bool (false) | 3 => v = .agg #[.int .i64 (qx), .int .i64 (qy), .int .i64 (qz)] | 4 => v = .agg #[.int .i64 (x), .int .i64 (y), .int .i64 (z)] | 5 => v = .agg #[.int .i64 (qx), .int .i64 (qy), .int .i64 (qz)] | 6 => v = .bool (false) | 7 => v = .bool (false) | 8 => v = .bool (false) | 9 => v = .agg #[.int .i64 (qx), .int .i64 (qy), .int .i64 (qz)] | 10 => v = .agg #[.int .i64 (qx), .int .i64 (qy), .int .i64 (qz)] | 11 => v = .agg #[.int .i64 (qx), .int .i64 (qy), .int .i64 (qz)] | 12 => v = .agg #[.int .i64 (qx), .int .i64 (qy), .int .i64 (qz)] | 13 => v = .bool (false) | 14 => v = .bool (false) | _ => True) := ⟨_, rfl⟩
    rw [← hR]
    have d0 : D 0 = some 9 := by rw [← hD]; rfl
    have d1 : D 1 = some 10 := by rw [← hD]; rfl
    have d2 : D 2 = some 11 := by rw [← hD]; rfl
    have d3 : D 3 = some 12 := by rw [← hD]; rfl
    have d4 : D 4 = some 13 := by rw [← hD]; rfl
    have d5 : D 5 = some 14 := by rw [← hD]; rfl
    have d6 : D 6 = some 15 := by rw [← hD]; rfl
    have d7 : D 7 = some 16 := by rw [← hD]; rfl
    have d8 : D 8 = some 17 := by rw [← hD]; rfl
    have d9 : D 9 = some 18 := by rw [← hD]; rfl
    have d10 : D 10 = some 19 := by rw [← hD]; rfl
    have d11 : D 11 = some 20 := by rw [← hD]; rfl
    have d12 : D 12 = some 21 := by rw [← hD]; rfl
    have d13 : D 13 = some 22 := by rw [← hD]; rfl
    have d14 : D 14 = some 23 := by rw [← hD]; rfl
    have r0 : ∀ v w, R 0 v w = (v = .bool (true)) := fun v w => by rw [hR]; rfl
    have r1 : ∀ v w, R 1 v w = (v = .bool (false)) := fun v w => by rw [hR]; rfl
    have r2 : ∀ v w, R 2 v w = (v = .bool (false)) := fun v w => by rw [hR]; rfl
    have r3 : ∀ v w, R 3 v w = (v = .agg #[.int .i64 (qx), .int .i64 (qy), .int .i64 (qz)]) := fun v w => by rw [hR]; rfl
    have r4 : ∀ v w, R 4 v w = (v = .agg #[.int .i64 (x), .int .i64 (y), .int .i64 (z)]) := fun v w => by rw [hR]; rfl
    have r5 : ∀ v w, R 5 v w = (v = .agg #[.int .i64 (qx), .int .i64 (qy), .int .i64 (qz)]) := fun v w => by rw [hR]; rfl
    have r6 : ∀ v w, R 6 v w = (v = .bool (false)) := fun v w => by rw [hR]; rfl
    have r7 : ∀ v w, R 7 v w = (v = .bool (false)) := fun v w => by rw [hR]; rfl
    have r8 : ∀ v w, R 8 v w = (v = .bool (false)) := fun v w => by rw [hR]; rfl
    have r9 : ∀ v w, R 9 v w = (v = .agg #[.int .i64 (qx), .int .i64 (qy), .int .i64 (qz)]) := fun v w => by rw [hR]; rfl
    have r10 : ∀ v w, R 10 v w = (v = .agg #[.int .i64 (qx), .int .i64 (qy), .int .i64 (qz)]) := fun v w => by rw [hR]; rfl
    have r11 : ∀ v w, R 11 v w = (v = .agg #[.int .i64 (qx), .int .i64 (qy), .int .i64 (qz)]) := fun v w => by rw [hR]; rfl
    have r12 : ∀ v w, R 12 v w = (v = .agg #[.int .i64 (qx), .int .i64 (qy), .int .i64 (qz)]) := fun v w => by rw [hR]; rfl
    have r13 : ∀ v w, R 13 v w = (v = .bool (false)) := fun v w => by rw [hR]; rfl
    have r14 : ∀ v w, R 14 v w = (v = .bool (false)) := fun v w => by rw [hR]; rfl
    have E1 : ∀ (γ : Nat → Value) (L : Nat → Bool) (a : Act) (w : World), RV.Held D WA R (fun γ L w9 => Below V2.heap.size V2 w9) Z γ L a w → a.tmps[1]? = some (.pointer (some ⟨bb, 0, none⟩)) := fun γ L a w hH => (hH.rest 1 (by rw [← hD]; exact RV.dst_free (by kernel_rfl))).trans (by rw [← hZ]; rfl)
    have E3 : ∀ (γ : Nat → Value) (L : Nat → Bool) (a : Act) (w : World), RV.Held D WA R (fun γ L w9 => Below V2.heap.size V2 w9) Z γ L a w → a.tmps[3]? = some (.bool (true)) := fun γ L a w hH => (hH.rest 3 (by rw [← hD]; exact RV.dst_free (by kernel_rfl))).trans (by rw [← hZ]; rfl)
    have E4 : ∀ (γ : Nat → Value) (L : Nat → Bool) (a : Act) (w : World), RV.Held D WA R (fun γ L w9 => Below V2.heap.size V2 w9) Z γ L a w → a.tmps[4]? = some (.pointer (some ⟨bq, 0, none⟩)) := fun γ L a w hH => (hH.rest 4 (by rw [← hD]; exact RV.dst_free (by kernel_rfl))).trans (by rw [← hZ]; rfl)
    have K : ∀ j v w w', R j v w → R j v w' := by rw [hR]; intro j v w w' h; exact h
    clear hD hWA hZ hR
    refine RV.AllDo.cons 0 (RV.does_pure (fun γ v L w hl h => h) (fun γ L a w hH hl hA => by have e0 := E3 γ L a w hH; exact ⟨.bool (true), by simp [execOp, go_sem, e0], (r0 _ _).mpr rfl⟩)) ?_
    refine RV.AllDo.cons 1 (RV.does_pure (fun γ v L w hl h => h) (fun γ L a w hH hl hA => by have l0 : L 0 = true := hA ⟨0, .data⟩ (by simp) rfl; have e0 := hH.slot 0 9 d0 l0; have g0 := hH.holds 0 l0; rw [r0] at g0; rw [g0] at e0; exact ⟨.bool (false), by simp [execOp, go_sem, e0], (r1 _ _).mpr rfl⟩)) ?_
    refine RV.AllDo.cons 2 (RV.does_pure (fun γ v L w hl h => h) (fun γ L a w hH hl hA => by have l0 : L 1 = true := hA ⟨1, .data⟩ (by simp) rfl; have e0 := hH.slot 1 10 d1 l0; have g0 := hH.holds 1 l0; rw [r1] at g0; rw [g0] at e0; exact ⟨.bool (false), by simp [execOp, go_sem, e0], (r2 _ _).mpr rfl⟩)) ?_
    refine RV.AllDo.cons 3 (RV.does_guarded rfl d2 (fun v w h => by rw [r2] at h; exact h) (by simp) (RV.does_pure (fun γ v L w hl h => h) (fun γ L a w hH hl hA => by have e0 := E4 γ L a w hH; have hB9 := hH.glob; have z0 := c_after hB9 q0; have z1 := c_after hB9 q1; have z2 := c_after hB9 q2; exact ⟨.agg #[.int .i64 (qx), .int .i64 (qy), .int .i64 (qz)], by simp [execOp, go_sem, e0, z0, z1, z2], (r3 _ _).mpr rfl⟩))) ?_
    refine RV.AllDo.cons 4 (RV.does_guarded rfl d2 (fun v w h => by rw [r2] at h; exact h) (by simp) (RV.does_pure (fun γ v L w hl h => h) (fun γ L a w hH hl hA => by have e0 := E1 γ L a w hH; have hB9 := hH.glob; have z0 := c_after hB9 p0; have z1 := c_after hB9 p1; have z2 := c_after hB9 p2; exact ⟨.agg #[.int .i64 (x), .int .i64 (y), .int .i64 (z)], by simp [execOp, go_sem, e0, z0, z1, z2], (r4 _ _).mpr rfl⟩))) ?_
    refine RV.AllDo.cons 5 (RV.does_guarded rfl d2 (fun v w h => by rw [r2] at h; exact h) (by simp) (RV.does_call (fun γ L a w hH hl hA => by have l0 : L 4 = true := hA ⟨4, .data⟩ (by simp) rfl; have e0 := hH.slot 4 13 d4 l0; have g0 := hH.holds 4 l0; rw [r4] at g0; rw [g0] at e0; have hB9 := hH.glob; exact ⟨21, #[.agg #[.int .i64 (x), .int .i64 (y), .int .i64 (z)]], by simp [go_sem, e0], Calls.mono (HR.out w) (by rintro e w2 ⟨rfl, hb⟩; exact ⟨_, rfl, (r5 _ _).mpr rfl, fun j v _ h => K j v _ _ h, hB9.trans (hb.mono hB9.size)⟩)⟩))) ?_
    refine RV.AllDo.cons 6 (RV.does_guarded rfl d2 (fun v w h => by rw [r2] at h; exact h) (by simp) (RV.does_pure (fun γ v L w hl h => h) (fun γ L a w hH hl hA => by have l0 : L 3 = true := hA ⟨3, .data⟩ (by simp) rfl; have e0 := hH.slot 3 12 d3 l0; have g0 := hH.holds 3 l0; rw [r3] at g0; rw [g0] at e0; have l1 : L 5 = true := hA ⟨5, .data⟩ (by simp) rfl; have e1 := hH.slot 5 14 d5 l1; have g1 := hH.holds 5 l1; rw [r5] at g1; rw [g1] at e1; exact ⟨.bool (false), by simp [execOp, go_sem, e0, e1], (r6 _ _).mpr rfl⟩))) ?_
    refine RV.AllDo.cons 7 (RV.does_pure (fun γ v L w hl h => h) (fun γ L a w hH hl hA => by have l0 : L 2 = true := hA ⟨2, .data⟩ (by simp) rfl; have e0 := hH.slot 2 11 d2 l0; have g0 := hH.holds 2 l0; rw [r2] at g0; rw [g0] at e0; have l1 : L 6 = true := hA ⟨6, .data⟩ (by simp) rfl; have e1 := hH.slot 6 15 d6 l1; have g1 := hH.holds 6 l1; rw [r6] at g1; rw [g1] at e1; exact ⟨.bool (false), by simp [execOp, go_sem, e0, e1], (r7 _ _).mpr rfl⟩)) ?_
    refine RV.AllDo.cons 8 (RV.does_pure (fun γ v L w hl h => h) (fun γ L a w hH hl hA => by have l0 : L 7 = true := hA ⟨7, .data⟩ (by simp) rfl; have e0 := hH.slot 7 16 d7 l0; have g0 := hH.holds 7 l0; rw [r7] at g0; rw [g0] at e0; exact ⟨.bool (false), by simp [execOp, go_sem, e0], (r8 _ _).mpr rfl⟩)) ?_
    refine RV.AllDo.cons 9 (RV.does_guarded rfl d8 (fun v w h => by rw [r8] at h; exact h) (by simp) (RV.does_pure (fun γ v L w hl h => h) (fun γ L a w hH hl hA => by have e0 := E4 γ L a w hH; have hB9 := hH.glob; have z0 := c_after hB9 q0; have z1 := c_after hB9 q1; have z2 := c_after hB9 q2; exact ⟨.agg #[.int .i64 (qx), .int .i64 (qy), .int .i64 (qz)], by simp [execOp, go_sem, e0, z0, z1, z2], (r9 _ _).mpr rfl⟩))) ?_
    refine RV.AllDo.cons 10 (RV.does_guarded rfl d8 (fun v w h => by rw [r8] at h; exact h) (by simp) (RV.does_call (fun γ L a w hH hl hA => by have l0 : L 9 = true := hA ⟨9, .data⟩ (by simp) rfl; have e0 := hH.slot 9 18 d9 l0; have g0 := hH.holds 9 l0; rw [r9] at g0; rw [g0] at e0; have hB9 := hH.glob; exact ⟨20, #[.agg #[.int .i64 (qx), .int .i64 (qy), .int .i64 (qz)]], by simp [go_sem, e0], Calls.mono (HS2.out w) (by rintro e w2 ⟨rfl, hb⟩; exact ⟨_, rfl, (r10 _ _).mpr rfl, fun j v _ h => K j v _ _ h, hB9.trans (hb.mono hB9.size)⟩)⟩))) ?_
    refine RV.AllDo.cons 11 (RV.does_guarded rfl d8 (fun v w h => by rw [r8] at h; exact h) (by simp) (RV.does_pure (fun γ v L w hl h => h) (fun γ L a w hH hl hA => by have e0 := E4 γ L a w hH; have hB9 := hH.glob; have z0 := c_after hB9 q0; have z1 := c_after hB9 q1; have z2 := c_after hB9 q2; exact ⟨.agg #[.int .i64 (qx), .int .i64 (qy), .int .i64 (qz)], by simp [execOp, go_sem, e0, z0, z1, z2], (r11 _ _).mpr rfl⟩))) ?_
    refine RV.AllDo.cons 12 (RV.does_guarded rfl d8 (fun v w h => by rw [r8] at h; exact h) (by simp) (RV.does_call (fun γ L a w hH hl hA => by have l0 : L 11 = true := hA ⟨11, .data⟩ (by simp) rfl; have e0 := hH.slot 11 20 d11 l0; have g0 := hH.holds 11 l0; rw [r11] at g0; rw [g0] at e0; have hB9 := hH.glob; exact ⟨21, #[.agg #[.int .i64 (qx), .int .i64 (qy), .int .i64 (qz)]], by simp [go_sem, e0], Calls.mono (HR2.out w) (by rintro e w2 ⟨rfl, hb⟩; exact ⟨_, rfl, (r12 _ _).mpr rfl, fun j v _ h => K j v _ _ h, hB9.trans (hb.mono hB9.size)⟩)⟩))) ?_
    refine RV.AllDo.cons 13 (RV.does_guarded rfl d8 (fun v w h => by rw [r8] at h; exact h) (by simp) (RV.does_pure (fun γ v L w hl h => h) (fun γ L a w hH hl hA => by have l0 : L 10 = true := hA ⟨10, .data⟩ (by simp) rfl; have e0 := hH.slot 10 19 d10 l0; have g0 := hH.holds 10 l0; rw [r10] at g0; rw [g0] at e0; have l1 : L 12 = true := hA ⟨12, .data⟩ (by simp) rfl; have e1 := hH.slot 12 21 d12 l1; have g1 := hH.holds 12 l1; rw [r12] at g1; rw [g1] at e1; exact ⟨.bool (false), by simp [execOp, go_sem, e0, e1], (r13 _ _).mpr rfl⟩))) ?_
    refine RV.AllDo.cons 14 (RV.does_pure (fun γ v L w hl h => h) (fun γ L a w hH hl hA => by have l0 : L 8 = true := hA ⟨8, .data⟩ (by simp) rfl; have e0 := hH.slot 8 17 d8 l0; have g0 := hH.holds 8 l0; rw [r8] at g0; rw [g0] at e0; have l1 : L 13 = true := hA ⟨13, .data⟩ (by simp) rfl; have e1 := hH.slot 13 22 d13 l1; have g1 := hH.holds 13 l1; rw [r13] at g1; rw [g1] at e1; exact ⟨.bool (false), by simp [execOp, go_sem, e0, e1], (r14 _ _).mpr rfl⟩)) ?_
    exact RV.AllDo.nil
  · intro γ a5 w5 L9 hL hLo hH
    have ha := RV.held_act hH hL (by kernel_rfl) (by kernel_rfl)
    have hb8 := hH.glob
    have y0 : γ 0 = .bool (true) := hH.holds 0 (hL 0 (by decide))
    have y1 : γ 1 = .bool (false) := hH.holds 1 (hL 1 (by decide))
    have y2 : γ 2 = .bool (false) := hH.holds 2 (hL 2 (by decide))
    have y3 : γ 3 = .agg #[.int .i64 (qx), .int .i64 (qy), .int .i64 (qz)] := hH.holds 3 (hL 3 (by decide))
    have y4 : γ 4 = .agg #[.int .i64 (x), .int .i64 (y), .int .i64 (z)] := hH.holds 4 (hL 4 (by decide))
    have y5 : γ 5 = .agg #[.int .i64 (qx), .int .i64 (qy), .int .i64 (qz)] := hH.holds 5 (hL 5 (by decide))
    have y6 : γ 6 = .bool (false) := hH.holds 6 (hL 6 (by decide))
    have y7 : γ 7 = .bool (false) := hH.holds 7 (hL 7 (by decide))
    have y8 : γ 8 = .bool (false) := hH.holds 8 (hL 8 (by decide))
    have y9 : γ 9 = .agg #[.int .i64 (qx), .int .i64 (qy), .int .i64 (qz)] := hH.holds 9 (hL 9 (by decide))
    have y10 : γ 10 = .agg #[.int .i64 (qx), .int .i64 (qy), .int .i64 (qz)] := hH.holds 10 (hL 10 (by decide))
    have y11 : γ 11 = .agg #[.int .i64 (qx), .int .i64 (qy), .int .i64 (qz)] := hH.holds 11 (hL 11 (by decide))
    have y12 : γ 12 = .agg #[.int .i64 (qx), .int .i64 (qy), .int .i64 (qz)] := hH.holds 12 (hL 12 (by decide))
    have y13 : γ 13 = .bool (false) := hH.holds 13 (hL 13 (by decide))
    have y14 : γ 14 = .bool (false) := hH.holds 14 (hL 14 (by decide))
    rw [ha]
    clear ha hH hL hLo
    simp only [RV.putAll, Act.put, List.setIfInBounds_toArray, List.set_cons_zero, List.set_cons_succ, Nat.zero_add, Nat.reduceAdd, y0, y1, y2, y3, y4, y5, y6, y7, y8, y9, y10, y11, y12, y13, y14]
    clear y0 y1 y2 y3 y4 y5 y6 y7 y8 y9 y10 y11 y12 y13 y14
    have HB : Hid _ := b_step hD.out hb8
    have bp : Hid _ := bp.out.step hb8
    have bQ : Hid _ := bQ.out.step hb8
    clear hb8 p0 p1 p2 q0 q1 q2 HR HS
    obtain ⟨p0, p1, p2, _, _, _⟩ := bp.out
    dsimp only at p0 p1 p2
    go_upto_region 5 with fail
    go_cut [36] from 24 (fun s wc => s = .bool (decide (x = -9223372036854775808 ∨ y = -9223372036854775808 ∨ z = -9223372036854775808)) ∧ wc = w5)
    case first =>
      by_cases ex : x = -9223372036854775808
      · have e1 : (x == -9223372036854775808) = true := beq_iff_eq.2 ex
        go_wp2_with (fail)
        go_meet
        case rel => exact ⟨by simp [ex], rfl⟩
      · have e1 : (x == -9223372036854775808) = false := beq_eq_false_iff_ne.2 ex
        by_cases ey : y = -9223372036854775808
        · have e2 : (y == -9223372036854775808) = true := beq_iff_eq.2 ey
          go_wp2_with (fail)
          go_meet
          case rel => exact ⟨by simp [ey], rfl⟩
        · have e2 : (y == -9223372036854775808) = false := beq_eq_false_iff_ne.2 ey
          by_cases ez : z = -9223372036854775808
          · have e3 : (z == -9223372036854775808) = true := beq_iff_eq.2 ez
            go_wp2_with (fail)
            go_meet
            case rel => exact ⟨by simp [ez], rfl⟩
          · have e3 : (z == -9223372036854775808) = false := beq_eq_false_iff_ne.2 ez
            go_wp2_with (fail)
            go_meet
            case rel => exact ⟨by simp [ex, ey, ez], rfl⟩
    case rest =>
      obtain ⟨rfl, hwc⟩ := hcut
      subst hwc
      by_cases hm : x = -9223372036854775808 ∨ y = -9223372036854775808 ∨ z = -9223372036854775808
      · rw [decide_eq_true hm]
        clear hm
        go_wp2_with (fail)
        go_ret
        exact ⟨rfl, HB.out⟩
      · rw [decide_eq_false hm]
        have hx' : -9223372036854775807 ≤ x := by omega
        have hy' : -9223372036854775807 ≤ y := by omega
        have hz' : -9223372036854775807 ≤ z := by omega
        clear hm
        go_wp2_with (fail)
        refine Calls.mono (HN.out _) ?_
        clear HN
        rintro e V4 ⟨rfl, hb⟩
        have HB : Hid _ := b_step HB.out hb
        have bQ : Hid _ := bQ.out.step hb
        clear hb p0 p1 p2 bp
        go_upto_region 8 with fail
        obtain ⟨V5, hV5⟩ : ∃ V5 : World, V5 = V4.alloc (.cells #[.int .i64 (-qx), .int .i64 (-qy), .int .i64 (-qz)] 23) := ⟨_, rfl⟩
        obtain ⟨bn, hbn⟩ : ∃ bn, bn = V4.heap.size := ⟨_, rfl⟩
        have bN : Hid (Box3 (V4.alloc (.cells #[.int .i64 (-qx), .int .i64 (-qy), .int .i64 (-qz)] 23)) V4.heap.size ⟨-qx, -qy, -qz⟩) := Box3.new V4 (-qx) (-qy) (-qz) _
        have hX : Below V4.heap.size V4 V5 := by rw [hV5]; exact n_after _ _
        rw [← hV5, ← hbn] at bN ⊢
        clear hV5 hbn
        have bQ : Hid _ := bQ.out.step hX
        have HB : Hid _ := b_step HB.out hX
        clear hX
        obtain ⟨q0, q1, q2, _, _, _⟩ := bQ.out
        obtain ⟨n0, n1, n2, _, _, _⟩ := bN.out
        dsimp only at q0 q1 q2 n0 n1 n2
        have hn1 : IntKind.i64.wrap (-qx) = -qx := iwrap (by omega) (by omega)
        have hn2 : IntKind.i64.wrap (-qy) = -qy := iwrap (by omega) (by omega)
        have hn3 : IntKind.i64.wrap (-qz) = -qz := iwrap (by omega) (by omega)
        refine RV.region_by (fun j v w => match j with | 0 => v = .agg #[.int .i64 (qx), .int .i64 (qy), .int .i64 (qz)] | 1 => v = .agg #[.int .i64 (qx), .int .i64 (qy), .int .i64 (qz)] | 2 => v = .agg #[.int .i64 (qx), .int .i64 (qy), .int .i64 (qz)] | 3 => v = .bool (true) | 4 => v = .bool (true) | 5 => v = .agg #[.int .i64 (-qx), .int .i64 (-qy), .int .i64 (-qz)] | 6 => v = .pointer (some ⟨bq, 0, none⟩) | 7 => v = .int .i64 (qx) | 8 => v = .int .i64 (-qx) | 9 => v = .pointer (some ⟨bq, 1, none⟩) | 10 => v = .int .i64 (qy) | 11 => v = .int .i64 (-qy) | 12 => v = .pointer (some ⟨bq, 2, none⟩) | 13 => v = .int .i64 (qz) | 14 => v = .int .i64 (-qz) | 15 => v = .agg #[.int .i64 (-qx), .int .i64 (-qy), .int .i64 (-qz)] | 16 => v = .bool (true) | 17 => v = .bool (true) | 18 => v = .bool (true) | _ => True) (fun γ L w9 => Below V5.heap.size V5 w9) (by kernel_rfl) (by kernel_rfl) (by kernel_rfl) (by kernel_rfl) ?_ ?_ ?_
        · exact (Below.refl _ V5).drew
        · generalize hD : dstOf _ = D
          generalize hWA : waitsFor _ = WA
          generalize hZ : Act.mk _ _ = Z
          obtain ⟨R, hR⟩ : ∃ R : Nat → Value → World → Prop, R = (fun j v w => match j with | 0 => v = .agg #[.int .i64 (qx), .int .i64 (qy), .int .i64 (qz)] | 1 => v = .agg #[.int .i64 (qx), .int .i64 (qy), .int .i64 (qz)] | 2 => v = .agg #[.int .i64 (qx), .int .i64 (qy), .int .i64 (qz)] | 3 => v = .bool (true) | 4 => v = .bool (true) | 5 => v = .agg #[.int .i64 (-qx), .int .i64 (-qy), .int .i64 (-qz)] | 6 => v = .pointer (some ⟨bq, 0, none⟩) | 7 => v = .int .i64 (qx) | 8 => v = .int .i64 (-qx) | 9 => v = .pointer (some ⟨bq, 1, none⟩) | 10 => v = .int .i64 (qy) | 11 => v = .int .i64 (-qy) | 12 => v = .pointer (some ⟨bq, 2, none⟩) | 13 => v = .int .i64 (qz) | 14 => v = .int .i64 (-qz) | 15 => v = .agg #[.int .i64 (-qx), .int .i64 (-qy), .int .i64 (-qz)] | 16 => v = .bool (true) | 17 => v = .bool (true) | 18 => v = .bool (true) | _ => True) := ⟨_, rfl⟩
          rw [← hR]
          have d0 : D 0 = some 48 := by rw [← hD]; rfl
          have d1 : D 1 = some 49 := by rw [← hD]; rfl
          have d2 : D 2 = some 50 := by rw [← hD]; rfl
          have d3 : D 3 = some 51 := by rw [← hD]; rfl
          have d4 : D 4 = some 52 := by rw [← hD]; rfl
          have d5 : D 5 = some 53 := by rw [← hD]; rfl
          have d6 : D 6 = some 54 := by rw [← hD]; rfl
          have d7 : D 7 = some 55 := by rw [← hD]; rfl
          have d8 : D 8 = some 56 := by rw [← hD]; rfl
          have d9 : D 9 = some 57 := by rw [← hD]; rfl
          have d10 : D 10 = some 58 := by rw [← hD]; rfl
          have d11 : D 11 = some 59 := by rw [← hD]; rfl
          have d12 : D 12 = some 60 := by rw [← hD]; rfl
          have d13 : D 13 = some 61 := by rw [← hD]; rfl
          have d14 : D 14 = some 62 := by rw [← hD]; rfl
          have d15 : D 15 = some 63 := by rw [← hD]; rfl
          have d16 : D 16 = some 64 := by rw [← hD]; rfl
          have d17 : D 17 = some 65 := by rw [← hD]; rfl
          have d18 : D 18 = some 2 := by rw [← hD]; rfl
          have r0 : ∀ v w, R 0 v w = (v = .agg #[.int .i64 (qx), .int .i64 (qy), .int .i64 (qz)]) := fun v w => by rw [hR]; rfl
          have r1 : ∀ v w, R 1 v w = (v = .agg #[.int .i64 (qx), .int .i64 (qy), .int .i64 (qz)]) := fun v w => by rw [hR]; rfl
          have r2 : ∀ v w, R 2 v w = (v = .agg #[.int .i64 (qx), .int .i64 (qy), .int .i64 (qz)]) := fun v w => by rw [hR]; rfl
          have r3 : ∀ v w, R 3 v w = (v = .bool (true)) := fun v w => by rw [hR]; rfl
          have r4 : ∀ v w, R 4 v w = (v = .bool (true)) := fun v w => by rw [hR]; rfl
          have r5 : ∀ v w, R 5 v w = (v = .agg #[.int .i64 (-qx), .int .i64 (-qy), .int .i64 (-qz)]) := fun v w => by rw [hR]; rfl
          have r6 : ∀ v w, R 6 v w = (v = .pointer (some ⟨bq, 0, none⟩)) := fun v w => by rw [hR]; rfl
          have r7 : ∀ v w, R 7 v w = (v = .int .i64 (qx)) := fun v w => by rw [hR]; rfl
          have r8 : ∀ v w, R 8 v w = (v = .int .i64 (-qx)) := fun v w => by rw [hR]; rfl
          have r9 : ∀ v w, R 9 v w = (v = .pointer (some ⟨bq, 1, none⟩)) := fun v w => by rw [hR]; rfl
          have r10 : ∀ v w, R 10 v w = (v = .int .i64 (qy)) := fun v w => by rw [hR]; rfl
          have r11 : ∀ v w, R 11 v w = (v = .int .i64 (-qy)) := fun v w => by rw [hR]; rfl
          have r12 : ∀ v w, R 12 v w = (v = .pointer (some ⟨bq, 2, none⟩)) := fun v w => by rw [hR]; rfl
          have r13 : ∀ v w, R 13 v w = (v = .int .i64 (qz)) := fun v w => by rw [hR]; rfl
          have r14 : ∀ v w, R 14 v w = (v = .int .i64 (-qz)) := fun v w => by rw [hR]; rfl
          have r15 : ∀ v w, R 15 v w = (v = .agg #[.int .i64 (-qx), .int .i64 (-qy), .int .i64 (-qz)]) := fun v w => by rw [hR]; rfl
          have r16 : ∀ v w, R 16 v w = (v = .bool (true)) := fun v w => by rw [hR]; rfl
          have r17 : ∀ v w, R 17 v w = (v = .bool (true)) := fun v w => by rw [hR]; rfl
          have r18 : ∀ v w, R 18 v w = (v = .bool (true)) := fun v w => by rw [hR]; rfl
          have E4 : ∀ (γ : Nat → Value) (L : Nat → Bool) (a : Act) (w : World), RV.Held D WA R (fun γ L w9 => Below V5.heap.size V5 w9) Z γ L a w → a.tmps[4]? = some (.pointer (some ⟨bq, 0, none⟩)) := fun γ L a w hH => (hH.rest 4 (by rw [← hD]; exact RV.dst_free (by kernel_rfl))).trans (by rw [← hZ]; rfl)
          have E5 : ∀ (γ : Nat → Value) (L : Nat → Bool) (a : Act) (w : World), RV.Held D WA R (fun γ L w9 => Below V5.heap.size V5 w9) Z γ L a w → a.tmps[5]? = some (.pointer (some ⟨bn, 0, none⟩)) := fun γ L a w hH => (hH.rest 5 (by rw [← hD]; exact RV.dst_free (by kernel_rfl))).trans (by rw [← hZ]; rfl)
          have K : ∀ j v w w', R j v w → R j v w' := by rw [hR]; intro j v w w' h; exact h
          clear hD hWA hZ hR
          refine RV.AllDo.cons 0 (RV.does_pure (fun γ v L w hl h => h) (fun γ L a w hH hl hA => by have e0 := E4 γ L a w hH; have hB9 := hH.glob; have z0 := c_after hB9 q0; have z1 := c_after hB9 q1; have z2 := c_after hB9 q2; exact ⟨.agg #[.int .i64 (qx), .int .i64 (qy), .int .i64 (qz)], by simp [execOp, go_sem, e0, z0, z1, z2], (r0 _ _).mpr rfl⟩)) ?_
          refine RV.AllDo.cons 1 (RV.does_call (fun γ L a w hH hl hA => by have l0 : L 0 = true := hA ⟨0, .data⟩ (by simp) rfl; have e0 := hH.slot 0 48 d0 l0; have g0 := hH.holds 0 l0; rw [r0] at g0; rw [g0] at e0; have hB9 := hH.glob; exact ⟨20, #[.agg #[.int .i64 (qx), .int .i64 (qy), .int .i64 (qz)]], by simp [go_sem, e0], Calls.mono (HS2.out w) (by rintro e w2 ⟨rfl, hb⟩; exact ⟨_, rfl, (r1 _ _).mpr rfl, fun j v _ h => K j v _ _ h, hB9.trans (hb.mono hB9.size)⟩)⟩)) ?_
          refine RV.AllDo.cons 2 (RV.does_pure (fun γ v L w hl h => h) (fun γ L a w hH hl hA => by have e0 := E4 γ L a w hH; have hB9 := hH.glob; have z0 := c_after hB9 q0; have z1 := c_after hB9 q1; have z2 := c_after hB9 q2; exact ⟨.agg #[.int .i64 (qx), .int .i64 (qy), .int .i64 (qz)], by simp [execOp, go_sem, e0, z0, z1, z2], (r2 _ _).mpr rfl⟩)) ?_
          refine RV.AllDo.cons 3 (RV.does_pure (fun γ v L w hl h => h) (fun γ L a w hH hl hA => by have l0 : L 1 = true := hA ⟨1, .data⟩ (by simp) rfl; have e0 := hH.slot 1 49 d1 l0; have g0 := hH.holds 1 l0; rw [r1] at g0; rw [g0] at e0; have l1 : L 2 = true := hA ⟨2, .data⟩ (by simp) rfl; have e1 := hH.slot 2 50 d2 l1; have g1 := hH.holds 2 l1; rw [r2] at g1; rw [g1] at e1; exact ⟨.bool (true), by simp [execOp, go_sem, e0, e1], (r3 _ _).mpr rfl⟩)) ?_
          refine RV.AllDo.cons 4 (RV.does_pure (fun γ v L w hl h => h) (fun γ L a w hH hl hA => by have l0 : L 3 = true := hA ⟨3, .data⟩ (by simp) rfl; have e0 := hH.slot 3 51 d3 l0; have g0 := hH.holds 3 l0; rw [r3] at g0; rw [g0] at e0; exact ⟨.bool (true), by simp [execOp, go_sem, e0], (r4 _ _).mpr rfl⟩)) ?_
          refine RV.AllDo.cons 5 (RV.does_guarded rfl d4 (fun v w h => by rw [r4] at h; exact h) (by simp) (RV.does_pure (fun γ v L w hl h => h) (fun γ L a w hH hl hA => by have e0 := E5 γ L a w hH; have hB9 := hH.glob; have z0 := c_after hB9 n0; have z1 := c_after hB9 n1; have z2 := c_after hB9 n2; exact ⟨.agg #[.int .i64 (-qx), .int .i64 (-qy), .int .i64 (-qz)], by simp [execOp, go_sem, e0, z0, z1, z2], (r5 _ _).mpr rfl⟩))) ?_
          refine RV.AllDo.cons 6 (RV.does_guarded rfl d4 (fun v w h => by rw [r4] at h; exact h) (by simp) (RV.does_pure (fun γ v L w hl h => h) (fun γ L a w hH hl hA => by have e0 := E4 γ L a w hH; exact ⟨.pointer (some ⟨bq, 0, none⟩), by simp [execOp, go_sem, e0], (r6 _ _).mpr rfl⟩))) ?_
          refine RV.AllDo.cons 7 (RV.does_guarded rfl d4 (fun v w h => by rw [r4] at h; exact h) (by simp) (RV.does_pure (fun γ v L w hl h => h) (fun γ L a w hH hl hA => by have l0 : L 6 = true := hA ⟨6, .data⟩ (by simp) rfl; have e0 := hH.slot 6 54 d6 l0; have g0 := hH.holds 6 l0; rw [r6] at g0; rw [g0] at e0; have hB9 := hH.glob; have z0 := c_after hB9 q0; exact ⟨.int .i64 (qx), by simp [execOp, go_sem, e0, z0], (r7 _ _).mpr rfl⟩))) ?_
          refine RV.AllDo.cons 8 (RV.does_guarded rfl d4 (fun v w h => by rw [r4] at h; exact h) (by simp) (RV.does_pure (fun γ v L w hl h => h) (fun γ L a w hH hl hA => by have l0 : L 7 = true := hA ⟨7, .data⟩ (by simp) rfl; have e0 := hH.slot 7 55 d7 l0; have g0 := hH.holds 7 l0; rw [r7] at g0; rw [g0] at e0; exact ⟨.int .i64 (-qx), by simp [execOp, go_sem, e0, hn1], (r8 _ _).mpr rfl⟩))) ?_
          refine RV.AllDo.cons 9 (RV.does_guarded rfl d4 (fun v w h => by rw [r4] at h; exact h) (by simp) (RV.does_pure (fun γ v L w hl h => h) (fun γ L a w hH hl hA => by have e0 := E4 γ L a w hH; exact ⟨.pointer (some ⟨bq, 1, none⟩), by simp [execOp, go_sem, e0], (r9 _ _).mpr rfl⟩))) ?_
          refine RV.AllDo.cons 10 (RV.does_guarded rfl d4 (fun v w h => by rw [r4] at h; exact h) (by simp) (RV.does_pure (fun γ v L w hl h => h) (fun γ L a w hH hl hA => by have l0 : L 9 = true := hA ⟨9, .data⟩ (by simp) rfl; have e0 := hH.slot 9 57 d9 l0; have g0 := hH.holds 9 l0; rw [r9] at g0; rw [g0] at e0; have hB9 := hH.glob; have z0 := c_after hB9 q1; exact ⟨.int .i64 (qy), by simp [execOp, go_sem, e0, z0], (r10 _ _).mpr rfl⟩))) ?_
          refine RV.AllDo.cons 11 (RV.does_guarded rfl d4 (fun v w h => by rw [r4] at h; exact h) (by simp) (RV.does_pure (fun γ v L w hl h => h) (fun γ L a w hH hl hA => by have l0 : L 10 = true := hA ⟨10, .data⟩ (by simp) rfl; have e0 := hH.slot 10 58 d10 l0; have g0 := hH.holds 10 l0; rw [r10] at g0; rw [g0] at e0; exact ⟨.int .i64 (-qy), by simp [execOp, go_sem, e0, hn2], (r11 _ _).mpr rfl⟩))) ?_
          refine RV.AllDo.cons 12 (RV.does_guarded rfl d4 (fun v w h => by rw [r4] at h; exact h) (by simp) (RV.does_pure (fun γ v L w hl h => h) (fun γ L a w hH hl hA => by have e0 := E4 γ L a w hH; exact ⟨.pointer (some ⟨bq, 2, none⟩), by simp [execOp, go_sem, e0], (r12 _ _).mpr rfl⟩))) ?_
          refine RV.AllDo.cons 13 (RV.does_guarded rfl d4 (fun v w h => by rw [r4] at h; exact h) (by simp) (RV.does_pure (fun γ v L w hl h => h) (fun γ L a w hH hl hA => by have l0 : L 12 = true := hA ⟨12, .data⟩ (by simp) rfl; have e0 := hH.slot 12 60 d12 l0; have g0 := hH.holds 12 l0; rw [r12] at g0; rw [g0] at e0; have hB9 := hH.glob; have z0 := c_after hB9 q2; exact ⟨.int .i64 (qz), by simp [execOp, go_sem, e0, z0], (r13 _ _).mpr rfl⟩))) ?_
          refine RV.AllDo.cons 14 (RV.does_guarded rfl d4 (fun v w h => by rw [r4] at h; exact h) (by simp) (RV.does_pure (fun γ v L w hl h => h) (fun γ L a w hH hl hA => by have l0 : L 13 = true := hA ⟨13, .data⟩ (by simp) rfl; have e0 := hH.slot 13 61 d13 l0; have g0 := hH.holds 13 l0; rw [r13] at g0; rw [g0] at e0; exact ⟨.int .i64 (-qz), by simp [execOp, go_sem, e0, hn3], (r14 _ _).mpr rfl⟩))) ?_
          refine RV.AllDo.cons 15 (RV.does_guarded rfl d4 (fun v w h => by rw [r4] at h; exact h) (by simp) (RV.does_pure (fun γ v L w hl h => h) (fun γ L a w hH hl hA => by have l0 : L 8 = true := hA ⟨8, .data⟩ (by simp) rfl; have e0 := hH.slot 8 56 d8 l0; have g0 := hH.holds 8 l0; rw [r8] at g0; rw [g0] at e0; have l1 : L 11 = true := hA ⟨11, .data⟩ (by simp) rfl; have e1 := hH.slot 11 59 d11 l1; have g1 := hH.holds 11 l1; rw [r11] at g1; rw [g1] at e1; have l2 : L 14 = true := hA ⟨14, .data⟩ (by simp) rfl; have e2 := hH.slot 14 62 d14 l2; have g2 := hH.holds 14 l2; rw [r14] at g2; rw [g2] at e2; exact ⟨.agg #[.int .i64 (-qx), .int .i64 (-qy), .int .i64 (-qz)], by simp [execOp, go_sem, e0, e1, e2], (r15 _ _).mpr rfl⟩))) ?_
          refine RV.AllDo.cons 16 (RV.does_guarded rfl d4 (fun v w h => by rw [r4] at h; exact h) (by simp) (RV.does_pure (fun γ v L w hl h => h) (fun γ L a w hH hl hA => by have l0 : L 5 = true := hA ⟨5, .data⟩ (by simp) rfl; have e0 := hH.slot 5 53 d5 l0; have g0 := hH.holds 5 l0; rw [r5] at g0; rw [g0] at e0; have l1 : L 15 = true := hA ⟨15, .data⟩ (by simp) rfl; have e1 := hH.slot 15 63 d15 l1; have g1 := hH.holds 15 l1; rw [r15] at g1; rw [g1] at e1; exact ⟨.bool (true), by simp [execOp, go_sem, e0, e1], (r16 _ _).mpr rfl⟩))) ?_
          refine RV.AllDo.cons 17 (RV.does_pure (fun γ v L w hl h => h) (fun γ L a w hH hl hA => by have l0 : L 4 = true := hA ⟨4, .data⟩ (by simp) rfl; have e0 := hH.slot 4 52 d4 l0; have g0 := hH.holds 4 l0; rw [r4] at g0; rw [g0] at e0; have l1 : L 16 = true := hA ⟨16, .data⟩ (by simp) rfl; have e1 := hH.slot 16 64 d16 l1; have g1 := hH.holds 16 l1; rw [r16] at g1; rw [g1] at e1; exact ⟨.bool (true), by simp [execOp, go_sem, e0, e1], (r17 _ _).mpr rfl⟩)) ?_
          refine RV.AllDo.cons 18 (RV.does_pure (fun γ v L w hl h => h) (fun γ L a w hH hl hA => by have l0 : L 17 = true := hA ⟨17, .data⟩ (by simp) rfl; have e0 := hH.slot 17 65 d17 l0; have g0 := hH.holds 17 l0; rw [r17] at g0; rw [g0] at e0; exact ⟨.bool (true), by simp [execOp, go_sem, e0], (r18 _ _).mpr rfl⟩)) ?_
          exact RV.AllDo.nil
        · intro γ a5 w5 L9 hL hLo hH
          have ha := RV.held_act hH hL (by kernel_rfl) (by kernel_rfl)
          have hb8 := hH.glob
          have y0 : γ 0 = .agg #[.int .i64 (qx), .int .i64 (qy), .int .i64 (qz)] := hH.holds 0 (hL 0 (by decide))
          have y1 : γ 1 = .agg #[.int .i64 (qx), .int .i64 (qy), .int .i64 (qz)] := hH.holds 1 (hL 1 (by decide))
          have y2 : γ 2 = .agg #[.int .i64 (qx), .int .i64 (qy), .int .i64 (qz)] := hH.holds 2 (hL 2 (by decide))
          have y3 : γ 3 = .bool (true) := hH.holds 3 (hL 3 (by decide))
          have y4 : γ 4 = .bool (true) := hH.holds 4 (hL 4 (by decide))
          have y5 : γ 5 = .agg #[.int .i64 (-qx), .int .i64 (-qy), .int .i64 (-qz)] := hH.holds 5 (hL 5 (by decide))
          have y6 : γ 6 = .pointer (some ⟨bq, 0, none⟩) := hH.holds 6 (hL 6 (by decide))
          have y7 : γ 7 = .int .i64 (qx) := hH.holds 7 (hL 7 (by decide))
          have y8 : γ 8 = .int .i64 (-qx) := hH.holds 8 (hL 8 (by decide))
          have y9 : γ 9 = .pointer (some ⟨bq, 1, none⟩) := hH.holds 9 (hL 9 (by decide))
          have y10 : γ 10 = .int .i64 (qy) := hH.holds 10 (hL 10 (by decide))
          have y11 : γ 11 = .int .i64 (-qy) := hH.holds 11 (hL 11 (by decide))
          have y12 : γ 12 = .pointer (some ⟨bq, 2, none⟩) := hH.holds 12 (hL 12 (by decide))
          have y13 : γ 13 = .int .i64 (qz) := hH.holds 13 (hL 13 (by decide))
          have y14 : γ 14 = .int .i64 (-qz) := hH.holds 14 (hL 14 (by decide))
          have y15 : γ 15 = .agg #[.int .i64 (-qx), .int .i64 (-qy), .int .i64 (-qz)] := hH.holds 15 (hL 15 (by decide))
          have y16 : γ 16 = .bool (true) := hH.holds 16 (hL 16 (by decide))
          have y17 : γ 17 = .bool (true) := hH.holds 17 (hL 17 (by decide))
          have y18 : γ 18 = .bool (true) := hH.holds 18 (hL 18 (by decide))
          rw [ha]
          clear ha hH hL hLo
          simp only [RV.putAll, Act.put, List.setIfInBounds_toArray, List.set_cons_zero, List.set_cons_succ, Nat.zero_add, Nat.reduceAdd, y0, y1, y2, y3, y4, y5, y6, y7, y8, y9, y10, y11, y12, y13, y14, y15, y16, y17, y18]
          clear y0 y1 y2 y3 y4 y5 y6 y7 y8 y9 y10 y11 y12 y13 y14 y15 y16 y17 y18
          have HB6 : Hid _ := b_step HB.out hb8
          go_wp2_with (fail)
          go_ret
          exact ⟨rfl, HB6.out⟩

/-! ### The row's step, after the guide's template -/
set_option maxRecDepth 100000 in
theorem lifted (os : Os) (started : os.Started) (H : Type) (enc : TypeId × Value → H) :
    ReturnsInHanded {} Try.checked os 5 .any (Rows.shapeShortSpec.pre6 enc Try.prog Try.f5 Rows.shapeShortRow.domain false) (Rows.shapeShortSpec.post enc Try.prog Try.f5 false true false false) := by
  refine returnsInHanded_of_change (C := Try.checked) own started (by kernel_rfl) Try.func5
    (ChangeSpec.witness6 (enc := enc) (C := Try.checked) false ⟨#[], #[.agg #[.int .i64 0, .int .i64 0, .int .i64 0]], []⟩ 8 (by kernel_rfl) (by kernel_rfl) (by kernel_rfl) (by kernel_rfl)) ?_
  intro W base args ds gs before hval0 hW hcnd _
  have hval : ∀ (j : Nat) t v, Try.f5.params[j]? = some t → args[j]? = some v → Value.okWide Try.prog W .any base t v := hval0
  have hW' := hW
  obtain ⟨p, q, hA0, hV, rfl, hfz, hnd⟩ := hW
  have hA : DataW.TrodAll enc Try.prog W 0 (fun _ => true) true Try.f5.params.toList args.toList ds p := hA0
  rw [Try.params5] at hA hval
  obtain ⟨v0, vs0, d0, ds0, p0, q0, hargs, rfl, rfl, h0, r0⟩ := trodAll_cons hA
  obtain ⟨rfl, rfl, rfl⟩ := trodAll_nil r0
  obtain rfl : args = #[v0] := by cases args; simp_all
  obtain ⟨rfl, rfl⟩ := trodVars_none hV
  obtain ⟨x, y, z, rfl, rfl, rfl, wx, wy, wz⟩ := open_point (hval 0 23 v0 rfl rfl) h0
  have bx := bounds_i64 wx
  have by_ := bounds_i64 wy
  have bz := bounds_i64 wz
  clear hA0 hval0
  simp only [List.append_nil] at hW'
  refine (walk x y z (by omega) (by omega) (by omega) W).mono fun e W' ⟨he, bel⟩ => ?_
  subst he
  exact ⟨_, rfl, _, _, _, [], [], [], hW', trodAll_mk1 (shut_bool Try.underlying4 _), (trodAll_cons_mk (shut_point wx wy wz) trodAll_mk0), rfl, bel.frame _, fun h => by cases h⟩

theorem over : Rows.shapeShortRow.holds Try.pinned (OpenSpec.ofChange Rows.shapeShortSpec) :=
  OpenClaim.holds_of_wide 5 Try.f5 rfl rfl rfl rfl rfl rfl rfl ⟨rfl, rfl, rfl, rfl, rfl⟩ rfl rfl rfl rfl rfl (by kernel_rfl) Try.func5 (by kernel_rfl)
    (of_decide_eq_true (by kernel_rfl)) (by unfold Func.isWrapper; first | (rw [if_pos (by decide +kernel)]; kernel_rfl) | (rw [if_neg (by decide +kernel)]; exact ⟨rfl, rfl⟩))
    (fun os started H enc _ => lifted os started H enc)

end shapeShort

theorem shapeShort_holds : Rows.ShapeShortSaid := shapeShort.over
#print axioms shapeShort_holds
end Go.Proofs.Ytepepnjpceljiaa
