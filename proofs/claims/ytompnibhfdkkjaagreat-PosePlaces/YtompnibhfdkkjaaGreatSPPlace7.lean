/- Package pose's within and around. -/
import Derived.Test.YtompnibhfdkkjaaGreatSPPlace6
import Derived.Test.YtompnibhfdkkjaaGreatSPPlace0
import Derived.Test.YtompnibhfdkkjaaGreatProg
import Derived.WalkKit
import Derived.Laws.MathBits
import Derived.Laws.Externs
import Derived.Handy
import Derived.Laws.BitsAllLaws
import Derived.WalkLawsBesides
namespace Go.Proofs.YtompnibhfdkkjaaGreat
open Go.RowKit Go.Shelf
set_option linter.unusedVariables false

def Pt.win (p : Pt) (m : Int) : Bool := p.le ⟨m, m, m⟩ && Pt.le ⟨IntKind.i64.wrap (-m), IntKind.i64.wrap (-m), IntKind.i64.wrap (-m)⟩ p
set_option maxHeartbeats 2000000 in
set_option maxRecDepth 100000 in
theorem pwithin_any (p : Pt) (m : Int) (w0 : World) :
    Calls Tryz.prog 59 #[p.v, .int .i64 m] w0 fun e W => e = .returned (.bool (p.win m)) ∧ Below w0.heap.size w0 W := by
  obtain ⟨mm, hmm⟩ : ∃ mm, IntKind.i64.wrap (-m) = mm := ⟨_, rfl⟩
  have K1 : Hid _ := fun w' => pthrice_any m w'
  have K2 : Hid _ := fun w' => pthrice_any mm w'
  have H1 : Hid _ := fun w' => noneAbove_any p ⟨m, m, m⟩ w'
  have H2 : Hid _ := fun w' => noneAbove_any ⟨mm, mm, mm⟩ p w'
  have HW : Hid (p.win m = (p.le ⟨m, m, m⟩ && Pt.le ⟨mm, mm, mm⟩ p)) := by show _ = _; unfold Pt.win; rw [hmm]
  obtain ⟨R9, hR9⟩ : ∃ R9, p.win m = R9 := ⟨_, rfl⟩
  rw [hR9] at HW ⊢
  clear hR9
  generalize p.le ⟨m, m, m⟩ = f1 at *
  generalize Pt.le ⟨mm, mm, mm⟩ p = f2 at *
  obtain ⟨x, y, z⟩ := p
  unfold Pt.v at *
  dsimp only at *
  go_enter Tryz.func59, Tryz.ntmps59
  go_upto_region 1 with fail
  obtain ⟨V, hV⟩ : ∃ V : World, V = w0.alloc (.cells #[.int .i64 x, .int .i64 y, .int .i64 z] 31) := ⟨_, rfl⟩
  obtain ⟨qa, hqa⟩ : ∃ b, b = w0.heap.size := ⟨_, rfl⟩
  have hD : Hid (Below w0.heap.size w0 V) := by rw [hV]; exact n_after _ _
  have C1 : Cells V qa [.int .i64 x, .int .i64 y, .int .i64 z] := by rw [hV, hqa]; exact Cells.new w0 [.int .i64 x, .int .i64 y, .int .i64 z] _
  rw [← hV, ← hqa]
  clear hV hqa
  have s0_ := (C1 0 _ rfl).1
  have s1_ := (C1 1 _ rfl).1
  have s2_ := (C1 2 _ rfl).1
  cases f1 with
  | false =>
    have e : R9 = false := HW.out
    subst e
    refine RV.region_by (fun j v w => match j with | 0 => v = .agg #[.int .i64 (x), .int .i64 (y), .int .i64 (z)] | 1 => v = .int .i64 (m) | 2 => v = .agg #[.int .i64 (m), .int .i64 (m), .int .i64 (m)] | 3 => v = .bool (false) | 4 => v = .bool (false) | 5 => v = undef | 6 => v = undef | 7 => v = undef | 8 => v = undef | 9 => v = undef | 10 => v = .bool (false) | 11 => v = .bool (false) | _ => True) (fun γ L w9 => Below V.heap.size V w9) (by kernel_rfl) (by kernel_rfl) (by kernel_rfl) (by kernel_rfl) ?_ ?_ ?_
    · exact (Below.refl _ V).drew
    · generalize hD : dstOf _ = D
      generalize hWA : waitsFor _ = WA
      generalize hZ : Act.mk _ _ = Z
      obtain ⟨R, hR⟩ : ∃ R : Nat → Value → World → Prop, R = (fun j v w => match j with | 0 => v = .agg #[.int .i64 (x), .int .i64 (y), .int .i64 (z)] | 1 => v = .int .i64 (m) | 2 => v = .agg #[.int .i64 (m), .int .i64 (m), .int .i64 (m)] | 3 => v = .bool (false) | 4 => v = .bool (false) | 5 => v = undef | 6 => v = undef | 7 => v = undef | 8 => v = undef | 9 => v = undef | 10 => v = .bool (false) | 11 => v = .bool (false) | _ => True) := ⟨_, rfl⟩
      rw [← hR]
      have d0 : D 0 = some 5 := by rw [← hD]; rfl
      have d1 : D 1 = some 6 := by rw [← hD]; rfl
      have d2 : D 2 = some 7 := by rw [← hD]; rfl
      have d3 : D 3 = some 8 := by rw [← hD]; rfl
      have d4 : D 4 = some 9 := by rw [← hD]; rfl
      have d5 : D 5 = some 10 := by rw [← hD]; rfl
      have d6 : D 6 = some 11 := by rw [← hD]; rfl
      have d7 : D 7 = some 12 := by rw [← hD]; rfl
      have d8 : D 8 = some 13 := by rw [← hD]; rfl
      have d9 : D 9 = some 14 := by rw [← hD]; rfl
      have d10 : D 10 = some 15 := by rw [← hD]; rfl
      have d11 : D 11 = some 4 := by rw [← hD]; rfl
      have r0 : ∀ v w, R 0 v w = (v = .agg #[.int .i64 (x), .int .i64 (y), .int .i64 (z)]) := fun v w => by rw [hR]; rfl
      have r1 : ∀ v w, R 1 v w = (v = .int .i64 (m)) := fun v w => by rw [hR]; rfl
      have r2 : ∀ v w, R 2 v w = (v = .agg #[.int .i64 (m), .int .i64 (m), .int .i64 (m)]) := fun v w => by rw [hR]; rfl
      have r3 : ∀ v w, R 3 v w = (v = .bool (false)) := fun v w => by rw [hR]; rfl
      have r4 : ∀ v w, R 4 v w = (v = .bool (false)) := fun v w => by rw [hR]; rfl
      have r5 : ∀ v w, R 5 v w = (v = undef) := fun v w => by rw [hR]; rfl
      have r6 : ∀ v w, R 6 v w = (v = undef) := fun v w => by rw [hR]; rfl
      have r7 : ∀ v w, R 7 v w = (v = undef) := fun v w => by rw [hR]; rfl
      have r8 : ∀ v w, R 8 v w = (v = undef) := fun v w => by rw [hR]; rfl
      have r9 : ∀ v w, R 9 v w = (v = undef) := fun v w => by rw [hR]; rfl
      have r10 : ∀ v w, R 10 v w = (v = .bool (false)) := fun v w => by rw [hR]; rfl
      have r11 : ∀ v w, R 11 v w = (v = .bool (false)) := fun v w => by rw [hR]; rfl
      have E1 : ∀ (γ : Nat → Value) (L : Nat → Bool) (a : Act) (w : World), RV.Held D WA R (fun γ L w9 => Below V.heap.size V w9) Z γ L a w → a.tmps[1]? = some (.int .i64 (m)) := fun γ L a w hH => (hH.rest 1 (by rw [← hD]; exact RV.dst_free (by kernel_rfl))).trans (by rw [← hZ]; rfl)
      have E2 : ∀ (γ : Nat → Value) (L : Nat → Bool) (a : Act) (w : World), RV.Held D WA R (fun γ L w9 => Below V.heap.size V w9) Z γ L a w → a.tmps[2]? = some (.pointer (some ⟨qa, 0, none⟩)) := fun γ L a w hH => (hH.rest 2 (by rw [← hD]; exact RV.dst_free (by kernel_rfl))).trans (by rw [← hZ]; rfl)
      have K : ∀ j v w w', R j v w → R j v w' := by rw [hR]; intro j v w w' h; exact h
      clear hD hWA hZ hR
      refine RV.AllDo.cons 0 (RV.does_pure (fun γ v L w hl h => h) (fun γ L a w hH hl hA => by have e0 := E2 γ L a w hH; have hB9 := hH.glob; have z0 := c_after hB9 s0_; have z1 := c_after hB9 s1_; have z2 := c_after hB9 s2_; exact ⟨.agg #[.int .i64 (x), .int .i64 (y), .int .i64 (z)], by simp [execOp, go_sem, e0, z0, z1, z2], (r0 _ _).mpr rfl⟩)) ?_
      refine RV.AllDo.cons 1 (RV.does_pure (fun γ v L w hl h => h) (fun γ L a w hH hl hA => by have e0 := E1 γ L a w hH; exact ⟨.int .i64 (m), by simp [execOp, go_sem, e0], (r1 _ _).mpr rfl⟩)) ?_
      refine RV.AllDo.cons 2 (RV.does_call (fun γ L a w hH hl hA => by have l0 : L 1 = true := hA ⟨1, .data⟩ (by simp) rfl; have e0 := hH.slot 1 6 d1 l0; have g0 := hH.holds 1 l0; rw [r1] at g0; rw [g0] at e0; have hB9 := hH.glob; exact ⟨70, #[.int .i64 (m)], by simp [go_sem, e0], Calls.mono (K1.out w) (by rintro e w2 ⟨rfl, hb⟩; exact ⟨_, rfl, (r2 _ _).mpr rfl, fun j v _ h => K j v _ _ h, hB9.trans (hb.mono hB9.size)⟩)⟩)) ?_
      refine RV.AllDo.cons 3 (RV.does_call (fun γ L a w hH hl hA => by have l0 : L 0 = true := hA ⟨0, .data⟩ (by simp) rfl; have e0 := hH.slot 0 5 d0 l0; have g0 := hH.holds 0 l0; rw [r0] at g0; rw [g0] at e0; have l1 : L 2 = true := hA ⟨2, .data⟩ (by simp) rfl; have e1 := hH.slot 2 7 d2 l1; have g1 := hH.holds 2 l1; rw [r2] at g1; rw [g1] at e1; have hB9 := hH.glob; exact ⟨99, #[.agg #[.int .i64 (x), .int .i64 (y), .int .i64 (z)], .agg #[.int .i64 (m), .int .i64 (m), .int .i64 (m)]], by simp [go_sem, e0, e1], Calls.mono (H1.out w) (by rintro e w2 ⟨rfl, hb⟩; exact ⟨_, rfl, (r3 _ _).mpr rfl, fun j v _ h => K j v _ _ h, hB9.trans (hb.mono hB9.size)⟩)⟩)) ?_
      refine RV.AllDo.cons 4 (RV.does_pure (fun γ v L w hl h => h) (fun γ L a w hH hl hA => by have l0 : L 3 = true := hA ⟨3, .data⟩ (by simp) rfl; have e0 := hH.slot 3 8 d3 l0; have g0 := hH.holds 3 l0; rw [r3] at g0; rw [g0] at e0; exact ⟨.bool (false), by simp [execOp, go_sem, e0], (r4 _ _).mpr rfl⟩)) ?_
      refine RV.AllDo.cons 5 (RV.does_skip rfl d4 (fun v w h => by rw [r4] at h; exact h) (by simp) (fun w => (r5 _ _).mpr rfl) (fun γ v L w hl h => h)) ?_
      refine RV.AllDo.cons 6 (RV.does_skip rfl d4 (fun v w h => by rw [r4] at h; exact h) (by simp) (fun w => (r6 _ _).mpr rfl) (fun γ v L w hl h => h)) ?_
      refine RV.AllDo.cons 7 (RV.does_skip rfl d4 (fun v w h => by rw [r4] at h; exact h) (by simp) (fun w => (r7 _ _).mpr rfl) (fun γ v L w hl h => h)) ?_
      refine RV.AllDo.cons 8 (RV.does_skip rfl d4 (fun v w h => by rw [r4] at h; exact h) (by simp) (fun w => (r8 _ _).mpr rfl) (fun γ v L w hl h => h)) ?_
      refine RV.AllDo.cons 9 (RV.does_skip rfl d4 (fun v w h => by rw [r4] at h; exact h) (by simp) (fun w => (r9 _ _).mpr rfl) (fun γ v L w hl h => h)) ?_
      refine RV.AllDo.cons 10 (RV.does_pure (fun γ v L w hl h => h) (fun γ L a w hH hl hA => by have l0 : L 4 = true := hA ⟨4, .data⟩ (by simp) rfl; have e0 := hH.slot 4 9 d4 l0; have g0 := hH.holds 4 l0; rw [r4] at g0; rw [g0] at e0; have l1 : L 9 = true := hA ⟨9, .data⟩ (by simp) rfl; have e1 := hH.slot 9 14 d9 l1; have g1 := hH.holds 9 l1; rw [r9] at g1; rw [g1] at e1; exact ⟨.bool (false), by simp [execOp, go_sem, e0, e1], (r10 _ _).mpr rfl⟩)) ?_
      refine RV.AllDo.cons 11 (RV.does_pure (fun γ v L w hl h => h) (fun γ L a w hH hl hA => by have l0 : L 10 = true := hA ⟨10, .data⟩ (by simp) rfl; have e0 := hH.slot 10 15 d10 l0; have g0 := hH.holds 10 l0; rw [r10] at g0; rw [g0] at e0; exact ⟨.bool (false), by simp [execOp, go_sem, e0], (r11 _ _).mpr rfl⟩)) ?_
      exact RV.AllDo.nil
    · intro γ a5 w5 L9 hL hLo hH
      have ha := RV.held_act hH hL (by kernel_rfl) (by kernel_rfl)
      have hb8 := hH.glob
      have y0 : γ 0 = .agg #[.int .i64 (x), .int .i64 (y), .int .i64 (z)] := hH.holds 0 (hL 0 (by decide))
      have y1 : γ 1 = .int .i64 (m) := hH.holds 1 (hL 1 (by decide))
      have y2 : γ 2 = .agg #[.int .i64 (m), .int .i64 (m), .int .i64 (m)] := hH.holds 2 (hL 2 (by decide))
      have y3 : γ 3 = .bool (false) := hH.holds 3 (hL 3 (by decide))
      have y4 : γ 4 = .bool (false) := hH.holds 4 (hL 4 (by decide))
      have y5 : γ 5 = undef := hH.holds 5 (hL 5 (by decide))
      have y6 : γ 6 = undef := hH.holds 6 (hL 6 (by decide))
      have y7 : γ 7 = undef := hH.holds 7 (hL 7 (by decide))
      have y8 : γ 8 = undef := hH.holds 8 (hL 8 (by decide))
      have y9 : γ 9 = undef := hH.holds 9 (hL 9 (by decide))
      have y10 : γ 10 = .bool (false) := hH.holds 10 (hL 10 (by decide))
      have y11 : γ 11 = .bool (false) := hH.holds 11 (hL 11 (by decide))
      rw [ha]
      clear ha hH hL hLo
      simp only [RV.putAll, Act.put, List.setIfInBounds_toArray, List.set_cons_zero, List.set_cons_succ, Nat.zero_add, Nat.reduceAdd, y0, y1, y2, y3, y4, y5, y6, y7, y8, y9, y10, y11]
      clear y0 y1 y2 y3 y4 y5 y6 y7 y8 y9 y10 y11
      have hE : Hid _ := b_step hD.out hb8
      go_wp2_with (fail)
      go_ret
      exact ⟨rfl, hE.out⟩
  | true =>
    have e : R9 = f2 := HW.out
    subst e
    refine RV.region_by (fun j v w => match j with | 0 => v = .agg #[.int .i64 (x), .int .i64 (y), .int .i64 (z)] | 1 => v = .int .i64 (m) | 2 => v = .agg #[.int .i64 (m), .int .i64 (m), .int .i64 (m)] | 3 => v = .bool (true) | 4 => v = .bool (true) | 5 => v = .int .i64 (m) | 6 => v = .int .i64 (mm) | 7 => v = .agg #[.int .i64 (mm), .int .i64 (mm), .int .i64 (mm)] | 8 => v = .agg #[.int .i64 (x), .int .i64 (y), .int .i64 (z)] | 9 => v = .bool (R9) | 10 => v = .bool (R9) | 11 => v = .bool (R9) | _ => True) (fun γ L w9 => Below V.heap.size V w9) (by kernel_rfl) (by kernel_rfl) (by kernel_rfl) (by kernel_rfl) ?_ ?_ ?_
    · exact (Below.refl _ V).drew
    · generalize hD : dstOf _ = D
      generalize hWA : waitsFor _ = WA
      generalize hZ : Act.mk _ _ = Z
      obtain ⟨R, hR⟩ : ∃ R : Nat → Value → World → Prop, R = (fun j v w => match j with | 0 => v = .agg #[.int .i64 (x), .int .i64 (y), .int .i64 (z)] | 1 => v = .int .i64 (m) | 2 => v = .agg #[.int .i64 (m), .int .i64 (m), .int .i64 (m)] | 3 => v = .bool (true) | 4 => v = .bool (true) | 5 => v = .int .i64 (m) | 6 => v = .int .i64 (mm) | 7 => v = .agg #[.int .i64 (mm), .int .i64 (mm), .int .i64 (mm)] | 8 => v = .agg #[.int .i64 (x), .int .i64 (y), .int .i64 (z)] | 9 => v = .bool (R9) | 10 => v = .bool (R9) | 11 => v = .bool (R9) | _ => True) := ⟨_, rfl⟩
      rw [← hR]
      have d0 : D 0 = some 5 := by rw [← hD]; rfl
      have d1 : D 1 = some 6 := by rw [← hD]; rfl
      have d2 : D 2 = some 7 := by rw [← hD]; rfl
      have d3 : D 3 = some 8 := by rw [← hD]; rfl
      have d4 : D 4 = some 9 := by rw [← hD]; rfl
      have d5 : D 5 = some 10 := by rw [← hD]; rfl
      have d6 : D 6 = some 11 := by rw [← hD]; rfl
      have d7 : D 7 = some 12 := by rw [← hD]; rfl
      have d8 : D 8 = some 13 := by rw [← hD]; rfl
      have d9 : D 9 = some 14 := by rw [← hD]; rfl
      have d10 : D 10 = some 15 := by rw [← hD]; rfl
      have d11 : D 11 = some 4 := by rw [← hD]; rfl
      have r0 : ∀ v w, R 0 v w = (v = .agg #[.int .i64 (x), .int .i64 (y), .int .i64 (z)]) := fun v w => by rw [hR]; rfl
      have r1 : ∀ v w, R 1 v w = (v = .int .i64 (m)) := fun v w => by rw [hR]; rfl
      have r2 : ∀ v w, R 2 v w = (v = .agg #[.int .i64 (m), .int .i64 (m), .int .i64 (m)]) := fun v w => by rw [hR]; rfl
      have r3 : ∀ v w, R 3 v w = (v = .bool (true)) := fun v w => by rw [hR]; rfl
      have r4 : ∀ v w, R 4 v w = (v = .bool (true)) := fun v w => by rw [hR]; rfl
      have r5 : ∀ v w, R 5 v w = (v = .int .i64 (m)) := fun v w => by rw [hR]; rfl
      have r6 : ∀ v w, R 6 v w = (v = .int .i64 (mm)) := fun v w => by rw [hR]; rfl
      have r7 : ∀ v w, R 7 v w = (v = .agg #[.int .i64 (mm), .int .i64 (mm), .int .i64 (mm)]) := fun v w => by rw [hR]; rfl
      have r8 : ∀ v w, R 8 v w = (v = .agg #[.int .i64 (x), .int .i64 (y), .int .i64 (z)]) := fun v w => by rw [hR]; rfl
      have r9 : ∀ v w, R 9 v w = (v = .bool (R9)) := fun v w => by rw [hR]; rfl
      have r10 : ∀ v w, R 10 v w = (v = .bool (R9)) := fun v w => by rw [hR]; rfl
      have r11 : ∀ v w, R 11 v w = (v = .bool (R9)) := fun v w => by rw [hR]; rfl
      have E1 : ∀ (γ : Nat → Value) (L : Nat → Bool) (a : Act) (w : World), RV.Held D WA R (fun γ L w9 => Below V.heap.size V w9) Z γ L a w → a.tmps[1]? = some (.int .i64 (m)) := fun γ L a w hH => (hH.rest 1 (by rw [← hD]; exact RV.dst_free (by kernel_rfl))).trans (by rw [← hZ]; rfl)
      have E2 : ∀ (γ : Nat → Value) (L : Nat → Bool) (a : Act) (w : World), RV.Held D WA R (fun γ L w9 => Below V.heap.size V w9) Z γ L a w → a.tmps[2]? = some (.pointer (some ⟨qa, 0, none⟩)) := fun γ L a w hH => (hH.rest 2 (by rw [← hD]; exact RV.dst_free (by kernel_rfl))).trans (by rw [← hZ]; rfl)
      have K : ∀ j v w w', R j v w → R j v w' := by rw [hR]; intro j v w w' h; exact h
      clear hD hWA hZ hR
      refine RV.AllDo.cons 0 (RV.does_pure (fun γ v L w hl h => h) (fun γ L a w hH hl hA => by have e0 := E2 γ L a w hH; have hB9 := hH.glob; have z0 := c_after hB9 s0_; have z1 := c_after hB9 s1_; have z2 := c_after hB9 s2_; exact ⟨.agg #[.int .i64 (x), .int .i64 (y), .int .i64 (z)], by simp [execOp, go_sem, e0, z0, z1, z2], (r0 _ _).mpr rfl⟩)) ?_
      refine RV.AllDo.cons 1 (RV.does_pure (fun γ v L w hl h => h) (fun γ L a w hH hl hA => by have e0 := E1 γ L a w hH; exact ⟨.int .i64 (m), by simp [execOp, go_sem, e0], (r1 _ _).mpr rfl⟩)) ?_
      refine RV.AllDo.cons 2 (RV.does_call (fun γ L a w hH hl hA => by have l0 : L 1 = true := hA ⟨1, .data⟩ (by simp) rfl; have e0 := hH.slot 1 6 d1 l0; have g0 := hH.holds 1 l0; rw [r1] at g0; rw [g0] at e0; have hB9 := hH.glob; exact ⟨70, #[.int .i64 (m)], by simp [go_sem, e0], Calls.mono (K1.out w) (by rintro e w2 ⟨rfl, hb⟩; exact ⟨_, rfl, (r2 _ _).mpr rfl, fun j v _ h => K j v _ _ h, hB9.trans (hb.mono hB9.size)⟩)⟩)) ?_
      refine RV.AllDo.cons 3 (RV.does_call (fun γ L a w hH hl hA => by have l0 : L 0 = true := hA ⟨0, .data⟩ (by simp) rfl; have e0 := hH.slot 0 5 d0 l0; have g0 := hH.holds 0 l0; rw [r0] at g0; rw [g0] at e0; have l1 : L 2 = true := hA ⟨2, .data⟩ (by simp) rfl; have e1 := hH.slot 2 7 d2 l1; have g1 := hH.holds 2 l1; rw [r2] at g1; rw [g1] at e1; have hB9 := hH.glob; exact ⟨99, #[.agg #[.int .i64 (x), .int .i64 (y), .int .i64 (z)], .agg #[.int .i64 (m), .int .i64 (m), .int .i64 (m)]], by simp [go_sem, e0, e1], Calls.mono (H1.out w) (by rintro e w2 ⟨rfl, hb⟩; exact ⟨_, rfl, (r3 _ _).mpr rfl, fun j v _ h => K j v _ _ h, hB9.trans (hb.mono hB9.size)⟩)⟩)) ?_
      refine RV.AllDo.cons 4 (RV.does_pure (fun γ v L w hl h => h) (fun γ L a w hH hl hA => by have l0 : L 3 = true := hA ⟨3, .data⟩ (by simp) rfl; have e0 := hH.slot 3 8 d3 l0; have g0 := hH.holds 3 l0; rw [r3] at g0; rw [g0] at e0; exact ⟨.bool (true), by simp [execOp, go_sem, e0], (r4 _ _).mpr rfl⟩)) ?_
      refine RV.AllDo.cons 5 (RV.does_guarded rfl d4 (fun v w h => by rw [r4] at h; exact h) (by simp) (RV.does_pure (fun γ v L w hl h => h) (fun γ L a w hH hl hA => by have e0 := E1 γ L a w hH; exact ⟨.int .i64 (m), by simp [execOp, go_sem, e0], (r5 _ _).mpr rfl⟩))) ?_
      refine RV.AllDo.cons 6 (RV.does_guarded rfl d4 (fun v w h => by rw [r4] at h; exact h) (by simp) (RV.does_pure (fun γ v L w hl h => h) (fun γ L a w hH hl hA => by have l0 : L 5 = true := hA ⟨5, .data⟩ (by simp) rfl; have e0 := hH.slot 5 10 d5 l0; have g0 := hH.holds 5 l0; rw [r5] at g0; rw [g0] at e0; exact ⟨.int .i64 (mm), by simp [execOp, go_sem, e0, hmm], (r6 _ _).mpr rfl⟩))) ?_
      refine RV.AllDo.cons 7 (RV.does_guarded rfl d4 (fun v w h => by rw [r4] at h; exact h) (by simp) (RV.does_call (fun γ L a w hH hl hA => by have l0 : L 6 = true := hA ⟨6, .data⟩ (by simp) rfl; have e0 := hH.slot 6 11 d6 l0; have g0 := hH.holds 6 l0; rw [r6] at g0; rw [g0] at e0; have hB9 := hH.glob; exact ⟨70, #[.int .i64 (mm)], by simp [go_sem, e0], Calls.mono (K2.out w) (by rintro e w2 ⟨rfl, hb⟩; exact ⟨_, rfl, (r7 _ _).mpr rfl, fun j v _ h => K j v _ _ h, hB9.trans (hb.mono hB9.size)⟩)⟩))) ?_
      refine RV.AllDo.cons 8 (RV.does_guarded rfl d4 (fun v w h => by rw [r4] at h; exact h) (by simp) (RV.does_pure (fun γ v L w hl h => h) (fun γ L a w hH hl hA => by have e0 := E2 γ L a w hH; have hB9 := hH.glob; have z0 := c_after hB9 s0_; have z1 := c_after hB9 s1_; have z2 := c_after hB9 s2_; exact ⟨.agg #[.int .i64 (x), .int .i64 (y), .int .i64 (z)], by simp [execOp, go_sem, e0, z0, z1, z2], (r8 _ _).mpr rfl⟩))) ?_
      refine RV.AllDo.cons 9 (RV.does_guarded rfl d4 (fun v w h => by rw [r4] at h; exact h) (by simp) (RV.does_call (fun γ L a w hH hl hA => by have l0 : L 7 = true := hA ⟨7, .data⟩ (by simp) rfl; have e0 := hH.slot 7 12 d7 l0; have g0 := hH.holds 7 l0; rw [r7] at g0; rw [g0] at e0; have l1 : L 8 = true := hA ⟨8, .data⟩ (by simp) rfl; have e1 := hH.slot 8 13 d8 l1; have g1 := hH.holds 8 l1; rw [r8] at g1; rw [g1] at e1; have hB9 := hH.glob; exact ⟨99, #[.agg #[.int .i64 (mm), .int .i64 (mm), .int .i64 (mm)], .agg #[.int .i64 (x), .int .i64 (y), .int .i64 (z)]], by simp [go_sem, e0, e1], Calls.mono (H2.out w) (by rintro e w2 ⟨rfl, hb⟩; exact ⟨_, rfl, (r9 _ _).mpr rfl, fun j v _ h => K j v _ _ h, hB9.trans (hb.mono hB9.size)⟩)⟩))) ?_
      refine RV.AllDo.cons 10 (RV.does_pure (fun γ v L w hl h => h) (fun γ L a w hH hl hA => by have l0 : L 4 = true := hA ⟨4, .data⟩ (by simp) rfl; have e0 := hH.slot 4 9 d4 l0; have g0 := hH.holds 4 l0; rw [r4] at g0; rw [g0] at e0; have l1 : L 9 = true := hA ⟨9, .data⟩ (by simp) rfl; have e1 := hH.slot 9 14 d9 l1; have g1 := hH.holds 9 l1; rw [r9] at g1; rw [g1] at e1; exact ⟨.bool (R9), by simp [execOp, go_sem, e0, e1], (r10 _ _).mpr rfl⟩)) ?_
      refine RV.AllDo.cons 11 (RV.does_pure (fun γ v L w hl h => h) (fun γ L a w hH hl hA => by have l0 : L 10 = true := hA ⟨10, .data⟩ (by simp) rfl; have e0 := hH.slot 10 15 d10 l0; have g0 := hH.holds 10 l0; rw [r10] at g0; rw [g0] at e0; exact ⟨.bool (R9), by simp [execOp, go_sem, e0], (r11 _ _).mpr rfl⟩)) ?_
      exact RV.AllDo.nil
    · intro γ a5 w5 L9 hL hLo hH
      have ha := RV.held_act hH hL (by kernel_rfl) (by kernel_rfl)
      have hb8 := hH.glob
      have y0 : γ 0 = .agg #[.int .i64 (x), .int .i64 (y), .int .i64 (z)] := hH.holds 0 (hL 0 (by decide))
      have y1 : γ 1 = .int .i64 (m) := hH.holds 1 (hL 1 (by decide))
      have y2 : γ 2 = .agg #[.int .i64 (m), .int .i64 (m), .int .i64 (m)] := hH.holds 2 (hL 2 (by decide))
      have y3 : γ 3 = .bool (true) := hH.holds 3 (hL 3 (by decide))
      have y4 : γ 4 = .bool (true) := hH.holds 4 (hL 4 (by decide))
      have y5 : γ 5 = .int .i64 (m) := hH.holds 5 (hL 5 (by decide))
      have y6 : γ 6 = .int .i64 (mm) := hH.holds 6 (hL 6 (by decide))
      have y7 : γ 7 = .agg #[.int .i64 (mm), .int .i64 (mm), .int .i64 (mm)] := hH.holds 7 (hL 7 (by decide))
      have y8 : γ 8 = .agg #[.int .i64 (x), .int .i64 (y), .int .i64 (z)] := hH.holds 8 (hL 8 (by decide))
      have y9 : γ 9 = .bool (R9) := hH.holds 9 (hL 9 (by decide))
      have y10 : γ 10 = .bool (R9) := hH.holds 10 (hL 10 (by decide))
      have y11 : γ 11 = .bool (R9) := hH.holds 11 (hL 11 (by decide))
      rw [ha]
      clear ha hH hL hLo
      simp only [RV.putAll, Act.put, List.setIfInBounds_toArray, List.set_cons_zero, List.set_cons_succ, Nat.zero_add, Nat.reduceAdd, y0, y1, y2, y3, y4, y5, y6, y7, y8, y9, y10, y11]
      clear y0 y1 y2 y3 y4 y5 y6 y7 y8 y9 y10 y11
      have hE : Hid _ := b_step hD.out hb8
      go_wp2_with (fail)
      go_ret
      exact ⟨rfl, hE.out⟩
end Go.Proofs.YtompnibhfdkkjaaGreat
namespace Go.Proofs.YtompnibhfdkkjaaGreat
open Go.RowKit Go.Shelf
attribute [local go_sem] Oper.semAt_some
set_option linter.unusedVariables false

set_option maxHeartbeats 1000000 in
theorem each_in_pt (o : Option Addr) (n c gf : Nat) (bs cs : Array Value) (w : World) : Calls Tryz.prog 21 #[.slice o n c, .func (.func gf) bs cs] w fun e w' => e = .returned (.func (.func 53) #[] #[.pointer (some ⟨w.heap.size, 0, none⟩), .pointer (some ⟨w.heap.size + 1, 0, none⟩)]) ∧ w' = (w.alloc (.cells #[.slice o n c] 22)).alloc (.cells #[.func (.func gf) bs cs] 59) := by
  go_enter Tryz.func21, Tryz.ntmps21
  go_wp2
  go_ret
  exact ⟨rfl, rfl⟩

set_option maxRecDepth 100000 in
set_option maxHeartbeats 4000000 in
theorem each_tells_pt (n : Nat) (Bp Bf : Nat) (Ls : List Pt) (o : Option Addr) (cap gf : Nat) (bs cs : Array Value) (enc : Nat → Value) (row : Option Nat) (S : Nat → Prop) (St : Nat → World → Prop) (w : World)
    (eg : ∀ args w, (callFunc gf args).run Tryz.prog w = .ok (.enter gf args) w)
    (hv : Lies w (.slice o Ls.length cap) Ls) (cp : w.cell? ⟨Bp, 0, none⟩ = some (.slice o Ls.length cap)) (cf : w.cell? ⟨Bf, 0, none⟩ = some (.func (.func gf) bs cs))
    (hSv : ∀ q, o = some q → Ls ≠ [] → S q.block ∧ some q.block ≠ row) (hSf : S Bf ∧ some Bf ≠ row) (hS : ∀ b, S b → b < w.heap.size)
    (hst0 : ∀ W, Below w.heap.size w W → St 0 W) (hstS : ∀ k A B, St k A → KeepO S A B → St k B)
    (hb : ∀ k V, k < Ls.length → St k V → Calls Tryz.prog gf (bs.push (pt Ls k).v ++ cs) V fun e V' => e = .returned (enc k) ∧ V.grownBy V' row ∧ St (k + 1) V') :
    TellsN n Tryz.prog 53 #[.pointer (some ⟨Bp, 0, none⟩), .pointer (some ⟨Bf, 0, none⟩)] (fun k => #[enc k]) row S St Ls.length w := by
  intro l J Jx W hB hJ hJx hJr hY h0
  have cp' := c_after hB cp
  have cf' := c_after hB cf
  have hv' := hv.below hB
  obtain ⟨o', cap', ee, hlc, hcm, hcell⟩ := hv'.form
  simp only [Value.slice.injEq, true_and] at ee
  obtain ⟨rfl, rfl⟩ := ee
  have HC : Hid _ := hcell
  have st0 := hst0 W hB
  clear hv hv' hcell cp cf hst0
  refine callsIn_of_wp Tryz.func53 rfl trivial ?_ rfl
  simp only [Tryz.ntmps53, List.size_toArray, List.length_cons, List.length_nil, Nat.reduceAdd, Nat.reduceSub, Array.replicate_succ, Array.replicate_zero, List.push_toArray, List.append_toArray, List.nil_append, List.cons_append]
  gi_wp2
  gi_loopw [8] (fun i wr => ∃ k : Nat, k ≤ Ls.length ∧ i = .int .i64 k ∧ Hid (J k wr) ∧ Hid (St k wr) ∧ Hid (KeepO (fun b => S b ∧ some b ≠ row) W wr))
    (fun i _ => Ls.length - (intOf i).toNat)
  case atStart => exact ⟨0, Nat.zero_le _, rfl, h0, st0, KeepO.refl _ _⟩
  case round =>
    obtain ⟨k, hk, rfl, hJk, hSk, hKk⟩ := hrel
    by_cases hlt : k < Ls.length
    · obtain ⟨g, off, rfl, x0, x1, x2⟩ := HC.out k hlt
      have hSg := hSv _ rfl (fun e => by rw [e] at hlt; simp at hlt)
      have y0 := hKk.out.cell (q := ⟨g, off + k * 3, none⟩) hSg x0
      have y1 := hKk.out.cell (q := ⟨g, off + k * 3 + 1, none⟩) hSg x1
      have y2 := hKk.out.cell (q := ⟨g, off + k * 3 + 2, none⟩) hSg x2
      have cf2 := hKk.out.cell (q := ⟨Bf, 0, none⟩) hSf cf'
      have HA : Hid _ := KeepO.alloc S wr (.cells #[.int .i64 (pt Ls k).x, .int .i64 (pt Ls k).y, .int .i64 (pt Ls k).z] 31)
      have hJ1 : Hid (J k (wr.alloc (.cells #[.int .i64 (pt Ls k).x, .int .i64 (pt Ls k).y, .int .i64 (pt Ls k).z] 31))) := hJ.alloc _ hJk.out
      have hbk : Hid (Calls Tryz.prog gf (bs.push (.agg #[.int .i64 (pt Ls k).x, .int .i64 (pt Ls k).y, .int .i64 (pt Ls k).z]) ++ cs) (wr.alloc (.cells #[.int .i64 (pt Ls k).x, .int .i64 (pt Ls k).y, .int .i64 (pt Ls k).z] 31)) fun e V' => e = .returned (enc k) ∧ (wr.alloc (.cells #[.int .i64 (pt Ls k).x, .int .i64 (pt Ls k).y, .int .i64 (pt Ls k).z] 31)).grownBy V' row ∧ St (k + 1) V') := hb k _ hlt (hstS k _ _ hSk.out HA.out)
      have cf3 := c_after (n_after wr (.cells #[.int .i64 (pt Ls k).x, .int .i64 (pt Ls k).y, .int .i64 (pt Ls k).z] 31)) cf2
      clear x0 x1 x2
      generalize (pt Ls k).x = px at *
      generalize (pt Ls k).y = py at *
      generalize (pt Ls k).z = pz at *
      gi_wp2
      refine ⟨trivial, fun h => (by cases h), (callsIn_wide.2 hbk.out).mono ?_⟩
      rintro e V1 ⟨rfl, g1, s1⟩
      have hJ2 := hJr k _ _ hJ1.out g1
      obtain ⟨fn, tmps, assign, body, hy, hR⟩ := hY k V1 hlt hJ2
      have k1 : Hid (KeepO (fun b => S b ∧ some b ≠ row) W V1) := (hKk.out.trans (HA.out.mono (fun b h => h.1))).trans (KeepO.grown g1 (fun b h => h.2))
      clear y0 y1 y2 cf2 cf3 hbk HA hJ1
      gi_wp2
      refine ⟨fun h => (by cases h), hR.mono ?_⟩
      rintro e W3 (⟨rfl, hJ3, hk3, _⟩ | ⟨rfl, hJx3, _⟩)
      · gi_wp2
        go_roundw
        case rel => exact ⟨k + 1, by omega, by simp, hJ3, hstS _ _ _ s1 hk3, k1.out.trans (hk3.mono (fun b h => h.1))⟩
        case measure => simp [intOf]; omega
      · gi_wp2
        refine bodyPost_ret (results_none rfl _ _ _) rfl ?_
        exact ⟨⟨_, rfl⟩, .inr ⟨k, hlt, hJx3⟩⟩
    · obtain rfl : k = Ls.length := by omega
      gi_wp2
      go_end0
      exact ⟨⟨_, rfl⟩, .inl ⟨hJk.out, hSk.out⟩⟩
set_option maxHeartbeats 1000000 in
theorem each_in_bool (o : Option Addr) (n c gf : Nat) (bs cs : Array Value) (w : World) : Calls Tryz.prog 57 #[.slice o n c, .func (.func gf) bs cs] w fun e w' => e = .returned (.func (.func 98) #[] #[.pointer (some ⟨w.heap.size, 0, none⟩), .pointer (some ⟨w.heap.size + 1, 0, none⟩)]) ∧ w' = (w.alloc (.cells #[.slice o n c] 22)).alloc (.cells #[.func (.func gf) bs cs] 94) := by
  go_enter Tryz.func57, Tryz.ntmps57
  go_wp2
  go_ret
  exact ⟨rfl, rfl⟩

set_option maxRecDepth 100000 in
set_option maxHeartbeats 4000000 in
theorem each_tells_bool (n : Nat) (Bp Bf : Nat) (Ls : List Pt) (o : Option Addr) (cap gf : Nat) (bs cs : Array Value) (enc : Nat → Value) (row : Option Nat) (S : Nat → Prop) (St : Nat → World → Prop) (w : World)
    (eg : ∀ args w, (callFunc gf args).run Tryz.prog w = .ok (.enter gf args) w)
    (hv : Lies w (.slice o Ls.length cap) Ls) (cp : w.cell? ⟨Bp, 0, none⟩ = some (.slice o Ls.length cap)) (cf : w.cell? ⟨Bf, 0, none⟩ = some (.func (.func gf) bs cs))
    (hSv : ∀ q, o = some q → Ls ≠ [] → S q.block ∧ some q.block ≠ row) (hSf : S Bf ∧ some Bf ≠ row) (hS : ∀ b, S b → b < w.heap.size)
    (hst0 : ∀ W, Below w.heap.size w W → St 0 W) (hstS : ∀ k A B, St k A → KeepO S A B → St k B)
    (hb : ∀ k V, k < Ls.length → St k V → Calls Tryz.prog gf (bs.push (pt Ls k).v ++ cs) V fun e V' => e = .returned (enc k) ∧ V.grownBy V' row ∧ St (k + 1) V') :
    TellsN n Tryz.prog 98 #[.pointer (some ⟨Bp, 0, none⟩), .pointer (some ⟨Bf, 0, none⟩)] (fun k => #[enc k]) row S St Ls.length w := by
  intro l J Jx W hB hJ hJx hJr hY h0
  have cp' := c_after hB cp
  have cf' := c_after hB cf
  have hv' := hv.below hB
  obtain ⟨o', cap', ee, hlc, hcm, hcell⟩ := hv'.form
  simp only [Value.slice.injEq, true_and] at ee
  obtain ⟨rfl, rfl⟩ := ee
  have HC : Hid _ := hcell
  have st0 := hst0 W hB
  clear hv hv' hcell cp cf hst0
  refine callsIn_of_wp Tryz.func98 rfl trivial ?_ rfl
  simp only [Tryz.ntmps98, List.size_toArray, List.length_cons, List.length_nil, Nat.reduceAdd, Nat.reduceSub, Array.replicate_succ, Array.replicate_zero, List.push_toArray, List.append_toArray, List.nil_append, List.cons_append]
  gi_wp2
  gi_loopw [8] (fun i wr => ∃ k : Nat, k ≤ Ls.length ∧ i = .int .i64 k ∧ Hid (J k wr) ∧ Hid (St k wr) ∧ Hid (KeepO (fun b => S b ∧ some b ≠ row) W wr))
    (fun i _ => Ls.length - (intOf i).toNat)
  case atStart => exact ⟨0, Nat.zero_le _, rfl, h0, st0, KeepO.refl _ _⟩
  case round =>
    obtain ⟨k, hk, rfl, hJk, hSk, hKk⟩ := hrel
    by_cases hlt : k < Ls.length
    · obtain ⟨g, off, rfl, x0, x1, x2⟩ := HC.out k hlt
      have hSg := hSv _ rfl (fun e => by rw [e] at hlt; simp at hlt)
      have y0 := hKk.out.cell (q := ⟨g, off + k * 3, none⟩) hSg x0
      have y1 := hKk.out.cell (q := ⟨g, off + k * 3 + 1, none⟩) hSg x1
      have y2 := hKk.out.cell (q := ⟨g, off + k * 3 + 2, none⟩) hSg x2
      have cf2 := hKk.out.cell (q := ⟨Bf, 0, none⟩) hSf cf'
      have HA : Hid _ := KeepO.alloc S wr (.cells #[.int .i64 (pt Ls k).x, .int .i64 (pt Ls k).y, .int .i64 (pt Ls k).z] 31)
      have hJ1 : Hid (J k (wr.alloc (.cells #[.int .i64 (pt Ls k).x, .int .i64 (pt Ls k).y, .int .i64 (pt Ls k).z] 31))) := hJ.alloc _ hJk.out
      have hbk : Hid (Calls Tryz.prog gf (bs.push (.agg #[.int .i64 (pt Ls k).x, .int .i64 (pt Ls k).y, .int .i64 (pt Ls k).z]) ++ cs) (wr.alloc (.cells #[.int .i64 (pt Ls k).x, .int .i64 (pt Ls k).y, .int .i64 (pt Ls k).z] 31)) fun e V' => e = .returned (enc k) ∧ (wr.alloc (.cells #[.int .i64 (pt Ls k).x, .int .i64 (pt Ls k).y, .int .i64 (pt Ls k).z] 31)).grownBy V' row ∧ St (k + 1) V') := hb k _ hlt (hstS k _ _ hSk.out HA.out)
      have cf3 := c_after (n_after wr (.cells #[.int .i64 (pt Ls k).x, .int .i64 (pt Ls k).y, .int .i64 (pt Ls k).z] 31)) cf2
      clear x0 x1 x2
      generalize (pt Ls k).x = px at *
      generalize (pt Ls k).y = py at *
      generalize (pt Ls k).z = pz at *
      gi_wp2
      refine ⟨trivial, fun h => (by cases h), (callsIn_wide.2 hbk.out).mono ?_⟩
      rintro e V1 ⟨rfl, g1, s1⟩
      have hJ2 := hJr k _ _ hJ1.out g1
      obtain ⟨fn, tmps, assign, body, hy, hR⟩ := hY k V1 hlt hJ2
      have k1 : Hid (KeepO (fun b => S b ∧ some b ≠ row) W V1) := (hKk.out.trans (HA.out.mono (fun b h => h.1))).trans (KeepO.grown g1 (fun b h => h.2))
      clear y0 y1 y2 cf2 cf3 hbk HA hJ1
      gi_wp2
      refine ⟨fun h => (by cases h), hR.mono ?_⟩
      rintro e W3 (⟨rfl, hJ3, hk3, _⟩ | ⟨rfl, hJx3, _⟩)
      · gi_wp2
        go_roundw
        case rel => exact ⟨k + 1, by omega, by simp, hJ3, hstS _ _ _ s1 hk3, k1.out.trans (hk3.mono (fun b h => h.1))⟩
        case measure => simp [intOf]; omega
      · gi_wp2
        refine bodyPost_ret (results_none rfl _ _ _) rfl ?_
        exact ⟨⟨_, rfl⟩, .inr ⟨k, hlt, hJx3⟩⟩
    · obtain rfl : k = Ls.length := by omega
      gi_wp2
      go_end0
      exact ⟨⟨_, rfl⟩, .inl ⟨hJk.out, hSk.out⟩⟩
set_option maxHeartbeats 1000000 in
theorem each_in_box (o : Option Addr) (n c gf : Nat) (bs cs : Array Value) (w : World) : Calls Tryz.prog 36 #[.slice o n c, .func (.func gf) bs cs] w fun e w' => e = .returned (.func (.func 67) #[] #[.pointer (some ⟨w.heap.size, 0, none⟩), .pointer (some ⟨w.heap.size + 1, 0, none⟩)]) ∧ w' = (w.alloc (.cells #[.slice o n c] 22)).alloc (.cells #[.func (.func gf) bs cs] 79) := by
  go_enter Tryz.func36, Tryz.ntmps36
  go_wp2
  go_ret
  exact ⟨rfl, rfl⟩

set_option maxRecDepth 100000 in
set_option maxHeartbeats 4000000 in
theorem each_tells_box (n : Nat) (Bp Bf : Nat) (Ls : List Pt) (o : Option Addr) (cap gf : Nat) (bs cs : Array Value) (enc : Nat → Value) (row : Option Nat) (S : Nat → Prop) (St : Nat → World → Prop) (w : World)
    (eg : ∀ args w, (callFunc gf args).run Tryz.prog w = .ok (.enter gf args) w)
    (hv : Lies w (.slice o Ls.length cap) Ls) (cp : w.cell? ⟨Bp, 0, none⟩ = some (.slice o Ls.length cap)) (cf : w.cell? ⟨Bf, 0, none⟩ = some (.func (.func gf) bs cs))
    (hSv : ∀ q, o = some q → Ls ≠ [] → S q.block ∧ some q.block ≠ row) (hSf : S Bf ∧ some Bf ≠ row) (hS : ∀ b, S b → b < w.heap.size)
    (hst0 : ∀ W, Below w.heap.size w W → St 0 W) (hstS : ∀ k A B, St k A → KeepO S A B → St k B)
    (hb : ∀ k V, k < Ls.length → St k V → Calls Tryz.prog gf (bs.push (pt Ls k).v ++ cs) V fun e V' => e = .returned (enc k) ∧ V.grownBy V' row ∧ St (k + 1) V') :
    TellsN n Tryz.prog 67 #[.pointer (some ⟨Bp, 0, none⟩), .pointer (some ⟨Bf, 0, none⟩)] (fun k => #[enc k]) row S St Ls.length w := by
  intro l J Jx W hB hJ hJx hJr hY h0
  have cp' := c_after hB cp
  have cf' := c_after hB cf
  have hv' := hv.below hB
  obtain ⟨o', cap', ee, hlc, hcm, hcell⟩ := hv'.form
  simp only [Value.slice.injEq, true_and] at ee
  obtain ⟨rfl, rfl⟩ := ee
  have HC : Hid _ := hcell
  have st0 := hst0 W hB
  clear hv hv' hcell cp cf hst0
  refine callsIn_of_wp Tryz.func67 rfl trivial ?_ rfl
  simp only [Tryz.ntmps67, List.size_toArray, List.length_cons, List.length_nil, Nat.reduceAdd, Nat.reduceSub, Array.replicate_succ, Array.replicate_zero, List.push_toArray, List.append_toArray, List.nil_append, List.cons_append]
  gi_wp2
  gi_loopw [8] (fun i wr => ∃ k : Nat, k ≤ Ls.length ∧ i = .int .i64 k ∧ Hid (J k wr) ∧ Hid (St k wr) ∧ Hid (KeepO (fun b => S b ∧ some b ≠ row) W wr))
    (fun i _ => Ls.length - (intOf i).toNat)
  case atStart => exact ⟨0, Nat.zero_le _, rfl, h0, st0, KeepO.refl _ _⟩
  case round =>
    obtain ⟨k, hk, rfl, hJk, hSk, hKk⟩ := hrel
    by_cases hlt : k < Ls.length
    · obtain ⟨g, off, rfl, x0, x1, x2⟩ := HC.out k hlt
      have hSg := hSv _ rfl (fun e => by rw [e] at hlt; simp at hlt)
      have y0 := hKk.out.cell (q := ⟨g, off + k * 3, none⟩) hSg x0
      have y1 := hKk.out.cell (q := ⟨g, off + k * 3 + 1, none⟩) hSg x1
      have y2 := hKk.out.cell (q := ⟨g, off + k * 3 + 2, none⟩) hSg x2
      have cf2 := hKk.out.cell (q := ⟨Bf, 0, none⟩) hSf cf'
      have HA : Hid _ := KeepO.alloc S wr (.cells #[.int .i64 (pt Ls k).x, .int .i64 (pt Ls k).y, .int .i64 (pt Ls k).z] 31)
      have hJ1 : Hid (J k (wr.alloc (.cells #[.int .i64 (pt Ls k).x, .int .i64 (pt Ls k).y, .int .i64 (pt Ls k).z] 31))) := hJ.alloc _ hJk.out
      have hbk : Hid (Calls Tryz.prog gf (bs.push (.agg #[.int .i64 (pt Ls k).x, .int .i64 (pt Ls k).y, .int .i64 (pt Ls k).z]) ++ cs) (wr.alloc (.cells #[.int .i64 (pt Ls k).x, .int .i64 (pt Ls k).y, .int .i64 (pt Ls k).z] 31)) fun e V' => e = .returned (enc k) ∧ (wr.alloc (.cells #[.int .i64 (pt Ls k).x, .int .i64 (pt Ls k).y, .int .i64 (pt Ls k).z] 31)).grownBy V' row ∧ St (k + 1) V') := hb k _ hlt (hstS k _ _ hSk.out HA.out)
      have cf3 := c_after (n_after wr (.cells #[.int .i64 (pt Ls k).x, .int .i64 (pt Ls k).y, .int .i64 (pt Ls k).z] 31)) cf2
      clear x0 x1 x2
      generalize (pt Ls k).x = px at *
      generalize (pt Ls k).y = py at *
      generalize (pt Ls k).z = pz at *
      gi_wp2
      refine ⟨trivial, fun h => (by cases h), (callsIn_wide.2 hbk.out).mono ?_⟩
      rintro e V1 ⟨rfl, g1, s1⟩
      have hJ2 := hJr k _ _ hJ1.out g1
      obtain ⟨fn, tmps, assign, body, hy, hR⟩ := hY k V1 hlt hJ2
      have k1 : Hid (KeepO (fun b => S b ∧ some b ≠ row) W V1) := (hKk.out.trans (HA.out.mono (fun b h => h.1))).trans (KeepO.grown g1 (fun b h => h.2))
      clear y0 y1 y2 cf2 cf3 hbk HA hJ1
      gi_wp2
      refine ⟨fun h => (by cases h), hR.mono ?_⟩
      rintro e W3 (⟨rfl, hJ3, hk3, _⟩ | ⟨rfl, hJx3, _⟩)
      · gi_wp2
        go_roundw
        case rel => exact ⟨k + 1, by omega, by simp, hJ3, hstS _ _ _ s1 hk3, k1.out.trans (hk3.mono (fun b h => h.1))⟩
        case measure => simp [intOf]; omega
      · gi_wp2
        refine bodyPost_ret (results_none rfl _ _ _) rfl ?_
        exact ⟨⟨_, rfl⟩, .inr ⟨k, hlt, hJx3⟩⟩
    · obtain rfl : k = Ls.length := by omega
      gi_wp2
      go_end0
      exact ⟨⟨_, rfl⟩, .inl ⟨hJk.out, hSk.out⟩⟩
end Go.Proofs.YtompnibhfdkkjaaGreat
namespace Go.Proofs.YtompnibhfdkkjaaGreat
open Go.RowKit

set_option maxHeartbeats 1000000 in
theorem mul64_any (x y : Int) (w : World) (hx0 : 0 ≤ x) (hx : x < 18446744073709551616) (hy0 : 0 ≤ y) (hy : y < 18446744073709551616) :
    Calls Tryz.prog 134 #[.int .u64 x, .int .u64 y] w fun e w' => e = .returned (.tuple #[.int .u64 (x * y / 18446744073709551616), .int .u64 (x * y % 18446744073709551616)]) ∧ w' = w := by
  have Ha : Hid (_ = _) := mul64_arith x y hx0 hx hy0 hy
  have hmx := and_low32 x hx0 hx
  have hmy := and_low32 y hy0 hy
  have hmt : Hid (∀ z : Int, bits .and .u64 (z % 18446744073709551616) 4294967295 = z % 18446744073709551616 % 4294967296) := fun z => and_low32 _ (by omega) (by omega)
  go_enter Tryz.func134, Tryz.ntmps134
  go_wp2
  simp only [IntKind.wrap_u64, hmt.out, Ha.out]
  go_ret2
  exact ⟨rfl, rfl⟩

theorem add64_run (x y c : Int) (w : World) (hx0 : 0 ≤ x) (hy0 : 0 ≤ y) (hc0 : 0 ≤ c) (hc : c ≤ 1) :
    (callFunc 133 #[.int .u64 x, .int .u64 y, .int .u64 c]).run Tryz.prog w =
      .ok (.value (.tuple #[.int .u64 ((x + y + c) % 18446744073709551616), .int .u64 ((x + y + c) / 18446744073709551616)])) w := by
  rw [run_callFunc_extern Tryz.func133 (by kernel_rfl) (by kernel_rfl) (by kernel_rfl) (e := add64Entry) (by kernel_rfl), run_add64 x y c hx0 hy0 hc0 hc]
  rfl

end Go.Proofs.YtompnibhfdkkjaaGreat
namespace Go.Proofs.YtompnibhfdkkjaaGreat.Fx

theorem div_of {n y q : Int} (hy : 0 < y) (h1 : q * y ≤ n) (h2 : n < (q + 1) * y) : n / y = q ∧ n % y = n - q * y := by
  have e : n / y = q := by
    apply Int.le_antisymm
    · have := (Int.ediv_lt_iff_lt_mul hy).2 h2; omega
    · exact (Int.le_ediv_iff_mul_le hy).2 h1
  refine ⟨e, ?_⟩
  have := Int.emod_add_mul_ediv n y
  rw [e, Int.mul_comm] at this
  omega

/-- The quotient, down, whatever the divisor's sign. -/
def fl (X c : Int) : Int := if c < 0 then (-X) / (-c) else X / c

theorem neg_div {T c : Int} (hc : 0 < c) : (-T) / c = if T % c = 0 then -(T / c) else -(T / c + 1) := by
  have a := Int.emod_add_mul_ediv T c
  have b := Int.emod_nonneg T (by omega : c ≠ 0)
  have d := Int.emod_lt_of_pos T hc
  rw [Int.mul_comm] at a
  split
  · refine (div_of hc ?_ ?_).1
    · rw [Int.neg_mul]; omega
    · rw [Int.add_mul, Int.neg_mul]; omega
  · refine (div_of hc ?_ ?_).1
    · rw [Int.neg_mul, Int.add_mul]; omega
    · rw [Int.neg_add, Int.neg_add_cancel_right, Int.neg_mul]; omega

/-! The numbers of fx: what each call tells (nothing: the flag is set). -/
def great (n : Int) : Bool := decide (n < -4611686018427387903) || decide (4611686018427387903 < n)
theorem great_iff (n : Int) : great n = true ↔ n < -4611686018427387903 ∨ 4611686018427387903 < n := by simp [great]
theorem not_great (n : Int) : great n = false ↔ -4611686018427387903 ≤ n ∧ n ≤ 4611686018427387903 := by simp [great]
def told (n : Int) : Option Int := if great n then none else some n
def add (a b : Int) : Option Int := if great a || great b then none else told (a + b)
def sub (a b : Int) : Option Int := if great a || great b then none else told (a - b)
def prods : List Int → List Int → Int
  | a :: l, b :: m => a * b + prods l m
  | _, _ => 0
theorem prods_step : ∀ (k : Nat) (l m : List Int), k < l.length → k < m.length → prods (l.take (k + 1)) (m.take (k + 1)) = prods (l.take k) (m.take k) + l.getD k 0 * m.getD k 0
  | 0, a :: l, b :: m, _, _ => by simp [prods]
  | k + 1, a :: l, b :: m, h, h' => by
    have := prods_step k l m (by simpa using h) (by simpa using h')
    simp only [List.take_succ_cons, prods, List.getD_cons_succ] at this ⊢
    rw [this]; omega
  | _, [], _, h, _ => by simp at h
  | _, _ :: _, [], _, h => by simp at h
theorem prods_bound : ∀ (l m : List Int), l.any great = false → m.any great = false → (prods l m).natAbs ≤ l.length * 21267647932558653957237540927630737409
  | [], _, _, _ => by simp [prods]
  | _ :: _, [], _, _ => by simp [prods]
  | a :: l, b :: m, h, h' => by
    simp only [List.any_cons, Bool.or_eq_false_iff] at h h'
    have := prods_bound l m h.2 h'.2
    have ha := (not_great a).1 h.1
    have hb := (not_great b).1 h'.1
    have hp : (a * b).natAbs ≤ 4611686018427387903 * 4611686018427387903 := by rw [Int.natAbs_mul]; exact Nat.mul_le_mul (by omega) (by omega)
    simp only [prods, List.length_cons]
    omega
theorem any_take {l : List Int} (k : Nat) (h : l.any great = false) : (l.take k).any great = false := by
  rw [List.any_eq_false] at h ⊢
  exact fun x hx => h x (List.mem_of_mem_take hx)
theorem getD_small {l : List Int} {k : Nat} (h : l.any great = false) (hk : k < l.length) : great (l.getD k 0) = false := by
  rw [List.any_eq_false] at h
  have := h _ (List.getElem_mem hk)
  simpa [List.getD_eq_getElem?_getD, List.getElem?_eq_getElem hk] using this
def dot (l m : List Int) : Option Int := if l.length ≠ m.length then none else if 8 < l.length then none else if l.any great || m.any great then none else told (prods l m / 4294967296)
end Go.Proofs.YtompnibhfdkkjaaGreat.Fx
namespace Go.Proofs.YtompnibhfdkkjaaGreat
open Go.RowKit Fx

theorem i64_mul_lt (a b : Int) (ha0 : 0 ≤ a) (ha : a < 9223372036854775808) (hb0 : 0 ≤ b) (hb : b < 9223372036854775808) : 0 ≤ a * b ∧ a * b < 85070591730234615865843651857942052864 := by
  have h1 := Int.mul_nonneg ha0 hb0
  have h2 := Int.mul_le_mul (show a ≤ 9223372036854775807 by omega) (show b ≤ 9223372036854775807 by omega) hb0 (by omega)
  omega

set_option maxHeartbeats 1000000 in
theorem product_any (a b : Int) (w : World) (ha0 : -9223372036854775808 ≤ a) (ha : a < 9223372036854775808) (hb0 : -9223372036854775808 ≤ b) (hb : b < 9223372036854775808) :
    Calls Tryz.prog 124 #[.int .i64 a, .int .i64 b] w fun e w' => e = .returned (.agg #[.int .u64 (a * b / 18446744073709551616 % 18446744073709551616), .int .u64 (a * b % 18446744073709551616)]) ∧ Below w.heap.size w w' := by
  by_cases ga : a < 0
  · obtain ⟨ua, hua⟩ : ∃ u, u = a + 18446744073709551616 := ⟨_, rfl⟩
    have hwa : IntKind.u64.wrap a = ua := by rw [IntKind.wrap_u64]; omega
    have hu0 : 0 ≤ ua := by omega
    have hu1 : ua < 18446744073709551616 := by omega
    by_cases gb : b < 0
    · obtain ⟨ub, hub⟩ : ∃ u, u = b + 18446744073709551616 := ⟨_, rfl⟩
      have hwb : IntKind.u64.wrap b = ub := by rw [IntKind.wrap_u64]; omega
      have hv0 : 0 ≤ ub := by omega
      have hv1 : ub < 18446744073709551616 := by omega
      have hq : IntKind.u64.wrap (IntKind.u64.wrap (ua * ub / 18446744073709551616 - ub) - ua) = a * b / 18446744073709551616 % 18446744073709551616 := by
        rw [hua, hub, Int.add_mul, Int.mul_add, IntKind.wrap_u64, IntKind.wrap_u64]; omega
      have hm : ua * ub % 18446744073709551616 = a * b % 18446744073709551616 := by rw [hua, hub, Int.add_mul, Int.mul_add]; omega
      clear hua hub
      go_enter Tryz.func124, Tryz.ntmps124
      go_wp2_with (go_at_call 134; refine (mul64_any _ _ _ ?_ ?_ ?_ ?_).mono ?_; (omega); (omega); (omega); (omega); rintro e w' ⟨rfl, rfl⟩)
      go_returns
      exact ⟨rfl, by go_grown⟩
    · have hq : IntKind.u64.wrap (ua * b / 18446744073709551616 - b) = a * b / 18446744073709551616 % 18446744073709551616 := by
        rw [hua, Int.add_mul, IntKind.wrap_u64]; omega
      have hm : ua * b % 18446744073709551616 = a * b % 18446744073709551616 := by rw [hua, Int.add_mul]; omega
      clear hua
      go_enter Tryz.func124, Tryz.ntmps124
      go_wp2_with (go_at_call 134; refine (mul64_any _ _ _ ?_ ?_ ?_ ?_).mono ?_; (omega); (omega); (omega); (omega); rintro e w' ⟨rfl, rfl⟩)
      go_returns
      exact ⟨rfl, by go_grown⟩
  · by_cases gb : b < 0
    · obtain ⟨ub, hub⟩ : ∃ u, u = b + 18446744073709551616 := ⟨_, rfl⟩
      have hwb : IntKind.u64.wrap b = ub := by rw [IntKind.wrap_u64]; omega
      have hv0 : 0 ≤ ub := by omega
      have hv1 : ub < 18446744073709551616 := by omega
      have hq : IntKind.u64.wrap (a * ub / 18446744073709551616 - a) = a * b / 18446744073709551616 % 18446744073709551616 := by
        rw [hub, Int.mul_add, IntKind.wrap_u64]; omega
      have hm : a * ub % 18446744073709551616 = a * b % 18446744073709551616 := by rw [hub, Int.mul_add]; omega
      clear hub
      go_enter Tryz.func124, Tryz.ntmps124
      go_wp2_with (go_at_call 134; refine (mul64_any _ _ _ ?_ ?_ ?_ ?_).mono ?_; (omega); (omega); (omega); (omega); rintro e w' ⟨rfl, rfl⟩)
      go_returns
      exact ⟨rfl, by go_grown⟩
    · have hp := i64_mul_lt a b (by omega) ha (by omega) hb
      have hq : a * b / 18446744073709551616 % 18446744073709551616 = a * b / 18446744073709551616 := by omega
      go_enter Tryz.func124, Tryz.ntmps124
      go_wp2_with (go_at_call 134; refine (mul64_any _ _ _ ?_ ?_ ?_ ?_).mono ?_; (omega); (omega); (omega); (omega); rintro e w' ⟨rfl, rfl⟩)
      go_returns
      exact ⟨by rw [hq], by go_grown⟩

set_option maxHeartbeats 1000000 in
theorem plus_any (X Y : Int) (w : World) :
    Calls Tryz.prog 123 #[.agg #[.int .u64 (X / 18446744073709551616 % 18446744073709551616), .int .u64 (X % 18446744073709551616)], .agg #[.int .u64 (Y / 18446744073709551616 % 18446744073709551616), .int .u64 (Y % 18446744073709551616)]] w fun e w' =>
      e = .returned (.agg #[.int .u64 ((X + Y) / 18446744073709551616 % 18446744073709551616), .int .u64 ((X + Y) % 18446744073709551616)]) ∧ Below w.heap.size w w' := by
  obtain ⟨l1, hl1⟩ : ∃ u, u = X % 18446744073709551616 := ⟨_, rfl⟩
  obtain ⟨l2, hl2⟩ : ∃ u, u = Y % 18446744073709551616 := ⟨_, rfl⟩
  obtain ⟨h1, hh1⟩ : ∃ u, u = X / 18446744073709551616 % 18446744073709551616 := ⟨_, rfl⟩
  obtain ⟨h2, hh2⟩ : ∃ u, u = Y / 18446744073709551616 % 18446744073709551616 := ⟨_, rfl⟩
  rw [← hl1, ← hl2, ← hh1, ← hh2]
  have e1 : (h1 + h2 + (l1 + l2) / 18446744073709551616) % 18446744073709551616 = (X + Y) / 18446744073709551616 % 18446744073709551616 := by omega
  have e2 : (l1 + l2) % 18446744073709551616 = (X + Y) % 18446744073709551616 := by omega
  have r1 := fun w => add64_run l1 l2 0 w (by omega) (by omega) (by omega) (by omega)
  have r2 := fun w => add64_run h1 h2 ((l1 + l2) / 18446744073709551616) w (by omega) (by omega) (by omega) (by omega)
  clear hl1 hl2 hh1 hh2
  go_enter Tryz.func123, Tryz.ntmps123
  go_wp2
  go_returns
  exact ⟨rfl, by go_grown⟩

theorem ret_both {k : IntKind} {a b : Int} {c d : Bool} (h : a = b) (h' : c = d) : Ending.returned (.tuple #[.int k a, .bool c]) = .returned (.tuple #[.int k b, .bool d]) := by rw [h, h']

theorem by_one_or (X : Int) : bits .or .u64 (IntKind.u64.wrap (X / 18446744073709551616 % 18446744073709551616 * 4294967296)) (X % 18446744073709551616 / 4294967296) = X / 4294967296 % 18446744073709551616 := by
  rw [IntKind.wrap_u64, u64_or _ _ (by omega) (by omega) (by omega) (by omega), nat_join 32 _ _ (by omega) (by omega)]
  omega

set_option maxHeartbeats 1000000 in
theorem byOne_any (X : Int) (w : World) (h0 : -170141183460469231731687303715884105728 ≤ X) (h1 : X < 170141183460469231731687303715884105728) :
    Calls Tryz.prog 125 #[.agg #[.int .u64 (X / 18446744073709551616 % 18446744073709551616), .int .u64 (X % 18446744073709551616)]] w fun e w' =>
      e = .returned (.tuple #[.int .i64 (wrap64 (X / 4294967296)), .bool (decide (-9223372036854775808 ≤ X / 4294967296 ∧ X / 4294967296 < 9223372036854775808))]) ∧ Below w.heap.size w w' := by
  go_enter Tryz.func125, Tryz.ntmps125
  go_wp2
  go_returns
  refine ⟨ret_both ?_ ?_, by go_grown⟩
  · rw [by_one_or]; unfold wrap64; omega
  · rw [by_one_or, Bool.eq_iff_iff, beq_iff_eq, decide_eq_true_eq]; unfold wrap64; omega

end Go.Proofs.YtompnibhfdkkjaaGreat
namespace Go.Proofs.YtompnibhfdkkjaaGreat
open Go.RowKit Fx

theorem great_step (zs : List Int) (k : Nat) (h : k < zs.length) (hn : (zs.take k).any great = false) : (zs.take (k + 1)).any great = great (zs.getD k 0) := by
  rw [List.take_succ_eq_append_getElem h, List.any_append, hn]
  simp [List.getD_eq_getElem?_getD, List.getElem?_eq_getElem h]

set_option maxHeartbeats 1000000 in
theorem great_any (zs : List Int) (b off cap : Nat) (w : World) (hlen : zs.length ≤ 4611686018427387904) (hc : ∀ k, k < zs.length → w.cell? ⟨b, off + k, none⟩ = some (.int .i64 (zs.getD k 0))) :
    Calls Tryz.prog 120 #[.slice (some ⟨b, off, none⟩) zs.length cap] w fun e w' => e = .returned (.bool (zs.any great)) ∧ w' = w := by
  have HC : Hid _ := hc
  clear hc
  go_enter Tryz.func120, Tryz.ntmps120
  go_wp2
  go_loop [7] (fun i => ∃ k : Nat, k ≤ zs.length ∧ i = .int .i64 k ∧ Hid ((zs.take k).any great = false)) (fun i => zs.length - (intOf i).toNat)
  case atStart => exact ⟨0, Nat.zero_le _, rfl, by simp [Hid]⟩
  case round =>
    obtain ⟨k, hk, rfl, HG⟩ := hrel
    by_cases hlt : k < zs.length
    · have hcell := HC.out k hlt
      have hs := great_step zs k hlt HG.out
      obtain ⟨z, hz⟩ : ∃ z, zs.getD k 0 = z := ⟨_, rfl⟩
      rw [hz] at hcell hs
      have HS : Hid _ := hs
      clear hs hz
      by_cases g1 : z < -4611686018427387903
      · have hany : zs.any great = true := by
          have : (zs.take (k + 1)).any great = true := by rw [HS.out]; simp [great, g1]
          rw [List.any_eq_true] at this ⊢
          obtain ⟨x, hx, hg⟩ := this
          exact ⟨x, List.mem_of_mem_take hx, hg⟩
        go_wp2
        go_ret
        exact ⟨rfl, rfl⟩
      · by_cases g2 : 4611686018427387903 < z
        · have hany : zs.any great = true := by
            have : (zs.take (k + 1)).any great = true := by rw [HS.out]; simp [great, g2]
            rw [List.any_eq_true] at this ⊢
            obtain ⟨x, hx, hg⟩ := this
            exact ⟨x, List.mem_of_mem_take hx, hg⟩
          go_wp2
          go_ret
          exact ⟨rfl, rfl⟩
        · have hno : Hid ((zs.take (k + 1)).any great = false) := by
            show _ = false
            rw [HS.out]; simp [great]; omega
          go_wp2
          go_round
          case rel => exact ⟨k + 1, by omega, by go_num, hno⟩
          case measure => simp [intOf]; omega
    · have hany : zs.any great = false := by
        have := HG.out
        rwa [List.take_of_length_le (by omega)] at this
      go_wp2
      go_ret
      exact ⟨rfl, rfl⟩

set_option maxHeartbeats 1000000 in
theorem great_nil (a : Option Addr) (cap : Nat) (w : World) :
    Calls Tryz.prog 120 #[.slice a 0 cap] w fun e w' => e = .returned (.bool false) ∧ w' = w := by
  go_enter Tryz.func120, Tryz.ntmps120
  go_wp2
  go_rounds 1
  go_ret
  exact ⟨rfl, rfl⟩

set_option maxHeartbeats 1000000 in
theorem none_any (b off : Nat) (f : Bool) (w : World) (hc : w.cell? ⟨b, off, none⟩ = some (.bool f)) (hf : w.frozen? ⟨b, off, none⟩ = false) :
    Calls Tryz.prog 121 #[.pointer (some ⟨b, off, none⟩)] w fun e w' => e = .returned (.int .i64 0) ∧ w' = w.setCell ⟨b, off, none⟩ (.bool true) := by
  go_enter Tryz.func121, Tryz.ntmps121
  go_wp2
  go_ret
  exact ⟨rfl, rfl⟩

theorem great1 (a : Int) (w : World) : Calls Tryz.prog 120 #[.slice (some ⟨w.heap.size, 0, none⟩) 1 1] (w.alloc (.cells #[.int .i64 a] 3)) fun e w' => e = .returned (.bool (great a)) ∧ w' = w.alloc (.cells #[.int .i64 a] 3) := by
  have h := great_any [a] w.heap.size 0 1 (w.alloc (.cells #[.int .i64 a] 3)) (by simp) (fun k hk => by
    match k, hk with
    | 0, _ => simp)
  simpa using h

theorem great2 (a b : Int) (w : World) : Calls Tryz.prog 120 #[.slice (some ⟨w.heap.size, 0, none⟩) 2 2] (w.alloc (.cells #[.int .i64 a, .int .i64 b] 3)) fun e w' => e = .returned (.bool (great a || great b)) ∧ w' = w.alloc (.cells #[.int .i64 a, .int .i64 b] 3) := by
  have h := great_any [a, b] w.heap.size 0 2 (w.alloc (.cells #[.int .i64 a, .int .i64 b] 3)) (by simp) (fun k hk => by
    match k, hk with
    | 0, _ => simp
    | 1, _ => simp)
  simpa using h

/-- What a call that tells o leaves of the flag at p. -/
def mark (p : Addr) (o : Option Int) (w : World) : World := if o.isNone then w.setCell p (.bool true) else w

theorem set_after {w w1 : World} {p : Addr} {v : Value} (hb : Below w.heap.size w w1) : Below w.heap.size (w.setCell p v) (w1.setCell p v) := by
  refine ⟨hb.os, hb.tape, hb.output, by simpa [World.setCell] using hb.size, fun k hk => ?_⟩
  simp only [World.setCell, Array.getElem?_modify]
  rw [hb.block k hk]

theorem cell_after {w w1 : World} {p : Addr} {v : Value} (hb : Below w.heap.size w w1) (hc : w.cell? p = some v) : w1.cell? p = some v := (hb.cell (World.block_lt_of_cell? _ _ hc)).trans hc
theorem frozen_after {w w1 : World} {p : Addr} {v : Value} (hb : Below w.heap.size w w1) (hc : w.cell? p = some v) (hf : w.frozen? p = false) : w1.frozen? p = false := (hb.frozen (World.block_lt_of_cell? _ _ hc)).trans hf
theorem new_after (w : World) (o : Obj) : Below w.heap.size w (w.alloc o) := (Below.refl _ _).alloc (Nat.le_refl _) _

set_option maxHeartbeats 1000000 in
theorem tell_yes (b off : Nat) (n : Int) (w : World) (hg : great n = false) :
    Calls Tryz.prog 122 #[.pointer (some ⟨b, off, none⟩), .int .i64 n, .bool true] w fun e w' => e = .returned (.int .i64 n) ∧ Below w.heap.size w w' := by
  have C1 : Hid _ := great1 n w
  rw [hg] at C1
  clear hg
  go_enter Tryz.func122, Tryz.ntmps122
  go_wp2_with (go_at_call 120; refine (Calls.mono C1.out ?_); rintro e w' ⟨rfl, rfl⟩)
  go_ret
  exact ⟨rfl, by go_grown⟩

set_option maxHeartbeats 1000000 in
theorem tell_great (b off : Nat) (f : Bool) (n : Int) (w : World) (hc : w.cell? ⟨b, off, none⟩ = some (.bool f)) (hf : w.frozen? ⟨b, off, none⟩ = false) (hg : great n = true) :
    Calls Tryz.prog 122 #[.pointer (some ⟨b, off, none⟩), .int .i64 n, .bool true] w fun e w' => e = .returned (.int .i64 0) ∧ Below w.heap.size (w.setCell ⟨b, off, none⟩ (.bool true)) w' := by
  have C1 := great1 n w
  have hb := new_after w (.cells #[.int .i64 n] 3)
  have C2 : Hid _ := none_any b off f (w.alloc (.cells #[.int .i64 n] 3)) (cell_after hb hc) (frozen_after hb hc hf)
  have HB : Hid _ := set_after (p := ⟨b, off, none⟩) (v := .bool true) hb
  rw [hg] at C1
  have K1 : Hid _ := C1
  clear hg C1 hb hc hf
  go_enter Tryz.func122, Tryz.ntmps122
  go_wp2_with (first | (go_at_call 120; refine (Calls.mono K1.out ?_); rintro e w' ⟨rfl, rfl⟩) | (go_at_call 121; refine (Calls.mono C2.out ?_); rintro e w' ⟨rfl, rfl⟩))
  go_ret
  exact ⟨rfl, HB.out⟩

set_option maxHeartbeats 1000000 in
theorem tell_no (b off : Nat) (f : Bool) (n : Int) (w : World) (hc : w.cell? ⟨b, off, none⟩ = some (.bool f)) (hf : w.frozen? ⟨b, off, none⟩ = false) :
    Calls Tryz.prog 122 #[.pointer (some ⟨b, off, none⟩), .int .i64 n, .bool false] w fun e w' => e = .returned (.int .i64 0) ∧ Below w.heap.size (w.setCell ⟨b, off, none⟩ (.bool true)) w' := by
  have C2 : Hid _ := none_any b off f w hc hf
  clear hc hf
  go_enter Tryz.func122, Tryz.ntmps122
  go_wp2_with (go_at_call 121; refine (Calls.mono C2.out ?_); rintro e w' ⟨rfl, rfl⟩)
  go_ret
  exact ⟨rfl, Below.refl _ _⟩

/-- tell, where the number fits: it tells the number, unless it is great. -/
theorem tell_any (b off : Nat) (f : Bool) (n : Int) (w : World) (hc : w.cell? ⟨b, off, none⟩ = some (.bool f)) (hf : w.frozen? ⟨b, off, none⟩ = false) :
    Calls Tryz.prog 122 #[.pointer (some ⟨b, off, none⟩), .int .i64 n, .bool true] w fun e w' => e = .returned (.int .i64 ((told n).getD 0)) ∧ Below w.heap.size (mark ⟨b, off, none⟩ (told n) w) w' := by
  cases hg : great n
  · simpa [told, hg, mark] using tell_yes b off n w hg
  · simpa [told, hg, mark] using tell_great b off f n w hc hf hg

theorem tell_any_none (b off : Nat) (f : Bool) (n : Int) (w : World) (hc : w.cell? ⟨b, off, none⟩ = some (.bool f)) (hf : w.frozen? ⟨b, off, none⟩ = false) :
    Calls Tryz.prog 122 #[.pointer (some ⟨b, off, none⟩), .int .i64 n, .bool false] w fun e w' => e = .returned (.int .i64 ((none : Option Int).getD 0)) ∧ Below w.heap.size (mark ⟨b, off, none⟩ none w) w' := by
  simpa [mark] using tell_no b off f n w hc hf

theorem mark_after {w w1 w2 : World} {p : Addr} {o : Option Int} (h1 : Below w.heap.size w w1) (h2 : Below w1.heap.size (mark p o w1) w2) : Below w.heap.size (mark p o w) w2 := by
  have hs := h1.size
  cases o with
  | none => exact (set_after h1).trans (h2.mono hs)
  | some n => exact h1.trans (h2.mono hs)

set_option maxHeartbeats 1000000 in
theorem add_any (b off : Nat) (f : Bool) (x y : Int) (w : World) (hc : w.cell? ⟨b, off, none⟩ = some (.bool f)) (hf : w.frozen? ⟨b, off, none⟩ = false) :
    Calls Tryz.prog 90 #[.pointer (some ⟨b, off, none⟩), .int .i64 x, .int .i64 y] w fun e w' => e = .returned (.int .i64 ((add x y).getD 0)) ∧ Below w.heap.size (mark ⟨b, off, none⟩ (add x y) w) w' := by
  have C1 := great2 x y w
  have hb := new_after w (.cells #[.int .i64 x, .int .i64 y] 3)
  have hc' := cell_after hb hc
  have hf' := frozen_after hb hc hf
  cases hg : (great x || great y)
  · have hadd : add x y = told (x + y) := by simp [add, hg]
    rw [hadd]
    rw [hg] at C1
    have hx : -4611686018427387903 ≤ x ∧ x ≤ 4611686018427387903 := (not_great x).1 (by simp at hg; exact hg.1)
    have hy : -4611686018427387903 ≤ y ∧ y ≤ 4611686018427387903 := (not_great y).1 (by simp at hg; exact hg.2)
    have C2 : Hid _ := tell_any b off f (x + y) _ hc' hf'
    have K1 : Hid _ := C1
    have HB : Hid _ := hb
    clear C1 hb hc hf hc' hf' hg hadd
    go_enter Tryz.func90, Tryz.ntmps90
    go_wp2_with (first | (go_at_call 120; refine (Calls.mono K1.out ?_); rintro e w' ⟨rfl, rfl⟩) | (go_at_call 122; refine (Calls.mono C2.out ?_); rintro e w' ⟨rfl, hb2⟩))
    go_ret
    exact ⟨rfl, mark_after HB.out hb2⟩
  · have hadd : add x y = none := by simp only [add, hg, if_true]
    rw [hadd]
    rw [hg] at C1
    have C2 : Hid _ := none_any b off f _ hc' hf'
    have K1 : Hid _ := C1
    have HB : Hid _ := set_after (p := ⟨b, off, none⟩) (v := .bool true) hb
    clear C1 hb hc hf hc' hf' hg hadd
    go_enter Tryz.func90, Tryz.ntmps90
    go_wp2_with (first | (go_at_call 120; refine (Calls.mono K1.out ?_); rintro e w' ⟨rfl, rfl⟩) | (go_at_call 121; refine (Calls.mono C2.out ?_); rintro e w' ⟨rfl, rfl⟩))
    go_ret
    exact ⟨rfl, HB.out⟩
end Go.Proofs.YtompnibhfdkkjaaGreat
