/- The document's own Meet, Grown and Join of boxes: all inputs. -/
import Derived.Test.YtocdompopadanaaGreatKPsA
namespace Go.Proofs.YtocdompopadanaaGreat
open Go.RowKit Go.Shelf
set_option linter.unusedVariables false

set_option maxHeartbeats 2000000 in
set_option maxRecDepth 100000 in
theorem rjoin_any (a b : Bx) (w0 : World) :
    Calls Tryz.prog 43 #[a.v, b.v] w0 fun e W => e = .returned (a.join b).v ∧ Below w0.heap.size w0 W := by
  obtain ⟨⟨x, y, z⟩, ⟨xh, yh, zh⟩⟩ := a
  obtain ⟨⟨x', y', z'⟩, ⟨xh', yh', zh'⟩⟩ := b
  unfold Bx.join Bx.v Pt.lesser Pt.greater lowI highI
  dsimp only
  obtain ⟨s0, h0⟩ : ∃ s, (if x' < x then x' else x) = s := ⟨_, rfl⟩
  obtain ⟨s1, h1⟩ : ∃ s, (if y' < y then y' else y) = s := ⟨_, rfl⟩
  obtain ⟨s2, h2⟩ : ∃ s, (if z' < z then z' else z) = s := ⟨_, rfl⟩
  obtain ⟨s3, h3⟩ : ∃ s, (if xh' > xh then xh' else xh) = s := ⟨_, rfl⟩
  obtain ⟨s4, h4⟩ : ∃ s, (if yh' > yh then yh' else yh) = s := ⟨_, rfl⟩
  obtain ⟨s5, h5⟩ : ∃ s, (if zh' > zh then zh' else zh) = s := ⟨_, rfl⟩
  rw [h0, h1, h2, h3, h4, h5]
  go_enter Tryz.func43, Tryz.ntmps43
  go_wp2
  exact bodyPost_ret (v := .agg #[.int .i64 s0, .int .i64 s1, .int .i64 s2, .int .i64 s3, .int .i64 s4, .int .i64 s5]) (by simp [results, Tryz.results43, go_sem]) rfl ⟨rfl, b_step (b_step (n_after w0 _) (n_after _ _)) (n_after _ _)⟩
set_option maxHeartbeats 2000000 in
set_option maxRecDepth 100000 in
theorem rgrown_any (a : Bx) (n : Int) (w0 : World) :
    Calls Tryz.prog 44 #[a.v, .int .i64 n] w0 fun e W => e = .returned (a.grown n).v ∧ Below w0.heap.size w0 W := by
  obtain ⟨⟨x, y, z⟩, ⟨xh, yh, zh⟩⟩ := a
  unfold Bx.grown Bx.v Pt.plus
  dsimp only
  rw [← wrap_sub x n]
  obtain ⟨s0, h0⟩ : ∃ s, IntKind.i64.wrap (x - n) = s := ⟨_, rfl⟩
  rw [← wrap_sub y n]
  obtain ⟨s1, h1⟩ : ∃ s, IntKind.i64.wrap (y - n) = s := ⟨_, rfl⟩
  rw [← wrap_sub z n]
  obtain ⟨s2, h2⟩ : ∃ s, IntKind.i64.wrap (z - n) = s := ⟨_, rfl⟩
  obtain ⟨s3, h3⟩ : ∃ s, IntKind.i64.wrap (xh + n) = s := ⟨_, rfl⟩
  obtain ⟨s4, h4⟩ : ∃ s, IntKind.i64.wrap (yh + n) = s := ⟨_, rfl⟩
  obtain ⟨s5, h5⟩ : ∃ s, IntKind.i64.wrap (zh + n) = s := ⟨_, rfl⟩
  rw [h0, h1, h2, h3, h4, h5]
  go_enter Tryz.func44, Tryz.ntmps44
  go_wp2
  exact bodyPost_ret (v := .agg #[.int .i64 s0, .int .i64 s1, .int .i64 s2, .int .i64 s3, .int .i64 s4, .int .i64 s5]) (by simp [results, Tryz.results44, go_sem]) rfl ⟨rfl, b_step (n_after w0 _) (n_after _ _)⟩
end Go.Proofs.YtocdompopadanaaGreat
/- Package pose's within and around. -/
namespace Go.Proofs.YtocdompopadanaaGreat
open Go.RowKit Go.Shelf
set_option linter.unusedVariables false

def Pt.win (p : Pt) (m : Int) : Bool := p.le ⟨m, m, m⟩ && Pt.le ⟨IntKind.i64.wrap (-m), IntKind.i64.wrap (-m), IntKind.i64.wrap (-m)⟩ p
set_option maxHeartbeats 2000000 in
set_option maxRecDepth 100000 in
theorem pwithin_any (p : Pt) (m : Int) (w0 : World) :
    Calls Tryz.prog 66 #[p.v, .int .i64 m] w0 fun e W => e = .returned (.bool (p.win m)) ∧ Below w0.heap.size w0 W := by
  obtain ⟨mm, hmm⟩ : ∃ mm, IntKind.i64.wrap (-m) = mm := ⟨_, rfl⟩
  have K1 : Hid _ := fun w' => pthrice_any m w'
  have K2 : Hid _ := fun w' => pthrice_any mm w'
  have H1 : Hid _ := fun w' => noneAbove_any p ⟨m, m, m⟩ w'
  have H2 : Hid _ := fun w' => noneAbove_any ⟨mm, mm, mm⟩ p w'
  have HW : Hid (p.win m = (p.le ⟨m, m, m⟩ && Pt.le ⟨mm, mm, mm⟩ p)) := by show _ = _; unfold Pt.win; rw [hmm]
  obtain ⟨R9, hR9⟩ : ∃ R9, p.win m = R9 := ⟨_, rfl⟩
  rw [hR9] at HW ⊢
  clear hR9
  generalize p.le ⟨m, m, m⟩ = f1 at *
  generalize Pt.le ⟨mm, mm, mm⟩ p = f2 at *
  obtain ⟨x, y, z⟩ := p
  unfold Pt.v at *
  dsimp only at *
  go_enter Tryz.func66, Tryz.ntmps66
  go_upto_region 1 with fail
  obtain ⟨V, hV⟩ : ∃ V : World, V = w0.alloc (.cells #[.int .i64 x, .int .i64 y, .int .i64 z] 31) := ⟨_, rfl⟩
  obtain ⟨qa, hqa⟩ : ∃ b, b = w0.heap.size := ⟨_, rfl⟩
  have hD : Hid (Below w0.heap.size w0 V) := by rw [hV]; exact n_after _ _
  have C1 : Cells V qa [.int .i64 x, .int .i64 y, .int .i64 z] := by rw [hV, hqa]; exact Cells.new w0 [.int .i64 x, .int .i64 y, .int .i64 z] _
  rw [← hV, ← hqa]
  clear hV hqa
  have s0_ := (C1 0 _ rfl).1
  have s1_ := (C1 1 _ rfl).1
  have s2_ := (C1 2 _ rfl).1
  cases f1 with
  | false =>
    have e : R9 = false := HW.out
    subst e
    refine RV.region_by (fun j v w => match j with | 0 => v = .agg #[.int .i64 (x), .int .i64 (y), .int .i64 (z)] | 1 => v = .int .i64 (m) | 2 => v = .agg #[.int .i64 (m), .int .i64 (m), .int .i64 (m)] | 3 => v = .bool (false) | 4 => v = .bool (false) | 5 => v = undef | 6 => v = undef | 7 => v = undef | 8 => v = undef | 9 => v = undef | 10 => v = .bool (false) | 11 => v = .bool (false) | _ => True) (fun γ L w9 => Below V.heap.size V w9) (by kernel_rfl) (by kernel_rfl) (by kernel_rfl) (by kernel_rfl) ?_ ?_ ?_
    · exact (Below.refl _ V).drew
    · generalize hD : dstOf _ = D
      generalize hWA : waitsFor _ = WA
      generalize hZ : Act.mk _ _ = Z
      obtain ⟨R, hR⟩ : ∃ R : Nat → Value → World → Prop, R = (fun j v w => match j with | 0 => v = .agg #[.int .i64 (x), .int .i64 (y), .int .i64 (z)] | 1 => v = .int .i64 (m) | 2 => v = .agg #[.int .i64 (m), .int .i64 (m), .int .i64 (m)] | 3 => v = .bool (false) | 4 => v = .bool (false) | 5 => v = undef | 6 => v = undef | 7 => v = undef | 8 => v = undef | 9 => v = undef | 10 => v = .bool (false) | 11 => v = .bool (false) | _ => True) := ⟨_, rfl⟩
      rw [← hR]
      have d0 : D 0 = some 5 := by rw [← hD]; rfl
      have d1 : D 1 = some 6 := by rw [← hD]; rfl
      have d2 : D 2 = some 7 := by rw [← hD]; rfl
      have d3 : D 3 = some 8 := by rw [← hD]; rfl
      have d4 : D 4 = some 9 := by rw [← hD]; rfl
      have d5 : D 5 = some 10 := by rw [← hD]; rfl
      have d6 : D 6 = some 11 := by rw [← hD]; rfl
      have d7 : D 7 = some 12 := by rw [← hD]; rfl
      have d8 : D 8 = some 13 := by rw [← hD]; rfl
      have d9 : D 9 = some 14 := by rw [← hD]; rfl
      have d10 : D 10 = some 15 := by rw [← hD]; rfl
      have d11 : D 11 = some 4 := by rw [← hD]; rfl
      have r0 : ∀ v w, R 0 v w = (v = .agg #[.int .i64 (x), .int .i64 (y), .int .i64 (z)]) := fun v w => by rw [hR]; rfl
      have r1 : ∀ v w, R 1 v w = (v = .int .i64 (m)) := fun v w => by rw [hR]; rfl
      have r2 : ∀ v w, R 2 v w = (v = .agg #[.int .i64 (m), .int .i64 (m), .int .i64 (m)]) := fun v w => by rw [hR]; rfl
      have r3 : ∀ v w, R 3 v w = (v = .bool (false)) := fun v w => by rw [hR]; rfl
      have r4 : ∀ v w, R 4 v w = (v = .bool (false)) := fun v w => by rw [hR]; rfl
      have r5 : ∀ v w, R 5 v w = (v = undef) := fun v w => by rw [hR]; rfl
      have r6 : ∀ v w, R 6 v w = (v = undef) := fun v w => by rw [hR]; rfl
      have r7 : ∀ v w, R 7 v w = (v = undef) := fun v w => by rw [hR]; rfl
      have r8 : ∀ v w, R 8 v w = (v = undef) := fun v w => by rw [hR]; rfl
      have r9 : ∀ v w, R 9 v w = (v = undef) := fun v w => by rw [hR]; rfl
      have r10 : ∀ v w, R 10 v w = (v = .bool (false)) := fun v w => by rw [hR]; rfl
      have r11 : ∀ v w, R 11 v w = (v = .bool (false)) := fun v w => by rw [hR]; rfl
      have E1 : ∀ (γ : Nat → Value) (L : Nat → Bool) (a : Act) (w : World), RV.Held D WA R (fun γ L w9 => Below V.heap.size V w9) Z γ L a w → a.tmps[1]? = some (.int .i64 (m)) := fun γ L a w hH => (hH.rest 1 (by rw [← hD]; exact RV.dst_free (by kernel_rfl))).trans (by rw [← hZ]; rfl)
      have E2 : ∀ (γ : Nat → Value) (L : Nat → Bool) (a : Act) (w : World), RV.Held D WA R (fun γ L w9 => Below V.heap.size V w9) Z γ L a w → a.tmps[2]? = some (.pointer (some ⟨qa, 0, none⟩)) := fun γ L a w hH => (hH.rest 2 (by rw [← hD]; exact RV.dst_free (by kernel_rfl))).trans (by rw [← hZ]; rfl)
      have K : ∀ j v w w', R j v w → R j v w' := by rw [hR]; intro j v w w' h; exact h
      clear hD hWA hZ hR
      refine RV.AllDo.cons 0 (RV.does_pure (fun γ v L w hl h => h) (fun γ L a w hH hl hA => by have e0 := E2 γ L a w hH; have hB9 := hH.glob; have z0 := c_after hB9 s0_; have z1 := c_after hB9 s1_; have z2 := c_after hB9 s2_; exact ⟨.agg #[.int .i64 (x), .int .i64 (y), .int .i64 (z)], by simp [execOp, go_sem, e0, z0, z1, z2], (r0 _ _).mpr rfl⟩)) ?_
      refine RV.AllDo.cons 1 (RV.does_pure (fun γ v L w hl h => h) (fun γ L a w hH hl hA => by have e0 := E1 γ L a w hH; exact ⟨.int .i64 (m), by simp [execOp, go_sem, e0], (r1 _ _).mpr rfl⟩)) ?_
      refine RV.AllDo.cons 2 (RV.does_call (fun γ L a w hH hl hA => by have l0 : L 1 = true := hA ⟨1, .data⟩ (by simp) rfl; have e0 := hH.slot 1 6 d1 l0; have g0 := hH.holds 1 l0; rw [r1] at g0; rw [g0] at e0; have hB9 := hH.glob; exact ⟨75, #[.int .i64 (m)], by simp [go_sem, e0], Calls.mono (K1.out w) (by rintro e w2 ⟨rfl, hb⟩; exact ⟨_, rfl, (r2 _ _).mpr rfl, fun j v _ h => K j v _ _ h, hB9.trans (hb.mono hB9.size)⟩)⟩)) ?_
      refine RV.AllDo.cons 3 (RV.does_call (fun γ L a w hH hl hA => by have l0 : L 0 = true := hA ⟨0, .data⟩ (by simp) rfl; have e0 := hH.slot 0 5 d0 l0; have g0 := hH.holds 0 l0; rw [r0] at g0; rw [g0] at e0; have l1 : L 2 = true := hA ⟨2, .data⟩ (by simp) rfl; have e1 := hH.slot 2 7 d2 l1; have g1 := hH.holds 2 l1; rw [r2] at g1; rw [g1] at e1; have hB9 := hH.glob; exact ⟨56, #[.agg #[.int .i64 (x), .int .i64 (y), .int .i64 (z)], .agg #[.int .i64 (m), .int .i64 (m), .int .i64 (m)]], by simp [go_sem, e0, e1], Calls.mono (H1.out w) (by rintro e w2 ⟨rfl, hb⟩; exact ⟨_, rfl, (r3 _ _).mpr rfl, fun j v _ h => K j v _ _ h, hB9.trans (hb.mono hB9.size)⟩)⟩)) ?_
      refine RV.AllDo.cons 4 (RV.does_pure (fun γ v L w hl h => h) (fun γ L a w hH hl hA => by have l0 : L 3 = true := hA ⟨3, .data⟩ (by simp) rfl; have e0 := hH.slot 3 8 d3 l0; have g0 := hH.holds 3 l0; rw [r3] at g0; rw [g0] at e0; exact ⟨.bool (false), by simp [execOp, go_sem, e0], (r4 _ _).mpr rfl⟩)) ?_
      refine RV.AllDo.cons 5 (RV.does_skip rfl d4 (fun v w h => by rw [r4] at h; exact h) (by simp) (fun w => (r5 _ _).mpr rfl) (fun γ v L w hl h => h)) ?_
      refine RV.AllDo.cons 6 (RV.does_skip rfl d4 (fun v w h => by rw [r4] at h; exact h) (by simp) (fun w => (r6 _ _).mpr rfl) (fun γ v L w hl h => h)) ?_
      refine RV.AllDo.cons 7 (RV.does_skip rfl d4 (fun v w h => by rw [r4] at h; exact h) (by simp) (fun w => (r7 _ _).mpr rfl) (fun γ v L w hl h => h)) ?_
      refine RV.AllDo.cons 8 (RV.does_skip rfl d4 (fun v w h => by rw [r4] at h; exact h) (by simp) (fun w => (r8 _ _).mpr rfl) (fun γ v L w hl h => h)) ?_
      refine RV.AllDo.cons 9 (RV.does_skip rfl d4 (fun v w h => by rw [r4] at h; exact h) (by simp) (fun w => (r9 _ _).mpr rfl) (fun γ v L w hl h => h)) ?_
      refine RV.AllDo.cons 10 (RV.does_pure (fun γ v L w hl h => h) (fun γ L a w hH hl hA => by have l0 : L 4 = true := hA ⟨4, .data⟩ (by simp) rfl; have e0 := hH.slot 4 9 d4 l0; have g0 := hH.holds 4 l0; rw [r4] at g0; rw [g0] at e0; have l1 : L 9 = true := hA ⟨9, .data⟩ (by simp) rfl; have e1 := hH.slot 9 14 d9 l1; have g1 := hH.holds 9 l1; rw [r9] at g1; rw [g1] at e1; exact ⟨.bool (false), by simp [execOp, go_sem, e0, e1], (r10 _ _).mpr rfl⟩)) ?_
      refine RV.AllDo.cons 11 (RV.does_pure (fun γ v L w hl h => h) (fun γ L a w hH hl hA => by have l0 : L 10 = true := hA ⟨10, .data⟩ (by simp) rfl; have e0 := hH.slot 10 15 d10 l0; have g0 := hH.holds 10 l0; rw [r10] at g0; rw [g0] at e0; exact ⟨.bool (false), by simp [execOp, go_sem, e0], (r11 _ _).mpr rfl⟩)) ?_
      exact RV.AllDo.nil
    · intro γ a5 w5 L9 hL hLo hH
      have ha := RV.held_act hH hL (by kernel_rfl) (by kernel_rfl)
      have hb8 := hH.glob
      have y0 : γ 0 = .agg #[.int .i64 (x), .int .i64 (y), .int .i64 (z)] := hH.holds 0 (hL 0 (by decide))
      have y1 : γ 1 = .int .i64 (m) := hH.holds 1 (hL 1 (by decide))
      have y2 : γ 2 = .agg #[.int .i64 (m), .int .i64 (m), .int .i64 (m)] := hH.holds 2 (hL 2 (by decide))
      have y3 : γ 3 = .bool (false) := hH.holds 3 (hL 3 (by decide))
      have y4 : γ 4 = .bool (false) := hH.holds 4 (hL 4 (by decide))
      have y5 : γ 5 = undef := hH.holds 5 (hL 5 (by decide))
      have y6 : γ 6 = undef := hH.holds 6 (hL 6 (by decide))
      have y7 : γ 7 = undef := hH.holds 7 (hL 7 (by decide))
      have y8 : γ 8 = undef := hH.holds 8 (hL 8 (by decide))
      have y9 : γ 9 = undef := hH.holds 9 (hL 9 (by decide))
      have y10 : γ 10 = .bool (false) := hH.holds 10 (hL 10 (by decide))
      have y11 : γ 11 = .bool (false) := hH.holds 11 (hL 11 (by decide))
      rw [ha]
      clear ha hH hL hLo
      simp only [RV.putAll, Act.put, List.setIfInBounds_toArray, List.set_cons_zero, List.set_cons_succ, Nat.zero_add, Nat.reduceAdd, y0, y1, y2, y3, y4, y5, y6, y7, y8, y9, y10, y11]
      clear y0 y1 y2 y3 y4 y5 y6 y7 y8 y9 y10 y11
      have hE : Hid _ := b_step hD.out hb8
      go_wp2_with (fail)
      go_ret
      exact ⟨rfl, hE.out⟩
  | true =>
    have e : R9 = f2 := HW.out
    subst e
    refine RV.region_by (fun j v w => match j with | 0 => v = .agg #[.int .i64 (x), .int .i64 (y), .int .i64 (z)] | 1 => v = .int .i64 (m) | 2 => v = .agg #[.int .i64 (m), .int .i64 (m), .int .i64 (m)] | 3 => v = .bool (true) | 4 => v = .bool (true) | 5 => v = .int .i64 (m) | 6 => v = .int .i64 (mm) | 7 => v = .agg #[.int .i64 (mm), .int .i64 (mm), .int .i64 (mm)] | 8 => v = .agg #[.int .i64 (x), .int .i64 (y), .int .i64 (z)] | 9 => v = .bool (R9) | 10 => v = .bool (R9) | 11 => v = .bool (R9) | _ => True) (fun γ L w9 => Below V.heap.size V w9) (by kernel_rfl) (by kernel_rfl) (by kernel_rfl) (by kernel_rfl) ?_ ?_ ?_
    · exact (Below.refl _ V).drew
    · generalize hD : dstOf _ = D
      generalize hWA : waitsFor _ = WA
      generalize hZ : Act.mk _ _ = Z
      obtain ⟨R, hR⟩ : ∃ R : Nat → Value → World → Prop, R = (fun j v w => match j with | 0 => v = .agg #[.int .i64 (x), .int .i64 (y), .int .i64 (z)] | 1 => v = .int .i64 (m) | 2 => v = .agg #[.int .i64 (m), .int .i64 (m), .int .i64 (m)] | 3 => v = .bool (true) | 4 => v = .bool (true) | 5 => v = .int .i64 (m) | 6 => v = .int .i64 (mm) | 7 => v = .agg #[.int .i64 (mm), .int .i64 (mm), .int .i64 (mm)] | 8 => v = .agg #[.int .i64 (x), .int .i64 (y), .int .i64 (z)] | 9 => v = .bool (R9) | 10 => v = .bool (R9) | 11 => v = .bool (R9) | _ => True) := ⟨_, rfl⟩
      rw [← hR]
      have d0 : D 0 = some 5 := by rw [← hD]; rfl
      have d1 : D 1 = some 6 := by rw [← hD]; rfl
      have d2 : D 2 = some 7 := by rw [← hD]; rfl
      have d3 : D 3 = some 8 := by rw [← hD]; rfl
      have d4 : D 4 = some 9 := by rw [← hD]; rfl
      have d5 : D 5 = some 10 := by rw [← hD]; rfl
      have d6 : D 6 = some 11 := by rw [← hD]; rfl
      have d7 : D 7 = some 12 := by rw [← hD]; rfl
      have d8 : D 8 = some 13 := by rw [← hD]; rfl
      have d9 : D 9 = some 14 := by rw [← hD]; rfl
      have d10 : D 10 = some 15 := by rw [← hD]; rfl
      have d11 : D 11 = some 4 := by rw [← hD]; rfl
      have r0 : ∀ v w, R 0 v w = (v = .agg #[.int .i64 (x), .int .i64 (y), .int .i64 (z)]) := fun v w => by rw [hR]; rfl
      have r1 : ∀ v w, R 1 v w = (v = .int .i64 (m)) := fun v w => by rw [hR]; rfl
      have r2 : ∀ v w, R 2 v w = (v = .agg #[.int .i64 (m), .int .i64 (m), .int .i64 (m)]) := fun v w => by rw [hR]; rfl
      have r3 : ∀ v w, R 3 v w = (v = .bool (true)) := fun v w => by rw [hR]; rfl
      have r4 : ∀ v w, R 4 v w = (v = .bool (true)) := fun v w => by rw [hR]; rfl
      have r5 : ∀ v w, R 5 v w = (v = .int .i64 (m)) := fun v w => by rw [hR]; rfl
      have r6 : ∀ v w, R 6 v w = (v = .int .i64 (mm)) := fun v w => by rw [hR]; rfl
      have r7 : ∀ v w, R 7 v w = (v = .agg #[.int .i64 (mm), .int .i64 (mm), .int .i64 (mm)]) := fun v w => by rw [hR]; rfl
      have r8 : ∀ v w, R 8 v w = (v = .agg #[.int .i64 (x), .int .i64 (y), .int .i64 (z)]) := fun v w => by rw [hR]; rfl
      have r9 : ∀ v w, R 9 v w = (v = .bool (R9)) := fun v w => by rw [hR]; rfl
      have r10 : ∀ v w, R 10 v w = (v = .bool (R9)) := fun v w => by rw [hR]; rfl
      have r11 : ∀ v w, R 11 v w = (v = .bool (R9)) := fun v w => by rw [hR]; rfl
      have E1 : ∀ (γ : Nat → Value) (L : Nat → Bool) (a : Act) (w : World), RV.Held D WA R (fun γ L w9 => Below V.heap.size V w9) Z γ L a w → a.tmps[1]? = some (.int .i64 (m)) := fun γ L a w hH => (hH.rest 1 (by rw [← hD]; exact RV.dst_free (by kernel_rfl))).trans (by rw [← hZ]; rfl)
      have E2 : ∀ (γ : Nat → Value) (L : Nat → Bool) (a : Act) (w : World), RV.Held D WA R (fun γ L w9 => Below V.heap.size V w9) Z γ L a w → a.tmps[2]? = some (.pointer (some ⟨qa, 0, none⟩)) := fun γ L a w hH => (hH.rest 2 (by rw [← hD]; exact RV.dst_free (by kernel_rfl))).trans (by rw [← hZ]; rfl)
      have K : ∀ j v w w', R j v w → R j v w' := by rw [hR]; intro j v w w' h; exact h
      clear hD hWA hZ hR
      refine RV.AllDo.cons 0 (RV.does_pure (fun γ v L w hl h => h) (fun γ L a w hH hl hA => by have e0 := E2 γ L a w hH; have hB9 := hH.glob; have z0 := c_after hB9 s0_; have z1 := c_after hB9 s1_; have z2 := c_after hB9 s2_; exact ⟨.agg #[.int .i64 (x), .int .i64 (y), .int .i64 (z)], by simp [execOp, go_sem, e0, z0, z1, z2], (r0 _ _).mpr rfl⟩)) ?_
      refine RV.AllDo.cons 1 (RV.does_pure (fun γ v L w hl h => h) (fun γ L a w hH hl hA => by have e0 := E1 γ L a w hH; exact ⟨.int .i64 (m), by simp [execOp, go_sem, e0], (r1 _ _).mpr rfl⟩)) ?_
      refine RV.AllDo.cons 2 (RV.does_call (fun γ L a w hH hl hA => by have l0 : L 1 = true := hA ⟨1, .data⟩ (by simp) rfl; have e0 := hH.slot 1 6 d1 l0; have g0 := hH.holds 1 l0; rw [r1] at g0; rw [g0] at e0; have hB9 := hH.glob; exact ⟨75, #[.int .i64 (m)], by simp [go_sem, e0], Calls.mono (K1.out w) (by rintro e w2 ⟨rfl, hb⟩; exact ⟨_, rfl, (r2 _ _).mpr rfl, fun j v _ h => K j v _ _ h, hB9.trans (hb.mono hB9.size)⟩)⟩)) ?_
      refine RV.AllDo.cons 3 (RV.does_call (fun γ L a w hH hl hA => by have l0 : L 0 = true := hA ⟨0, .data⟩ (by simp) rfl; have e0 := hH.slot 0 5 d0 l0; have g0 := hH.holds 0 l0; rw [r0] at g0; rw [g0] at e0; have l1 : L 2 = true := hA ⟨2, .data⟩ (by simp) rfl; have e1 := hH.slot 2 7 d2 l1; have g1 := hH.holds 2 l1; rw [r2] at g1; rw [g1] at e1; have hB9 := hH.glob; exact ⟨56, #[.agg #[.int .i64 (x), .int .i64 (y), .int .i64 (z)], .agg #[.int .i64 (m), .int .i64 (m), .int .i64 (m)]], by simp [go_sem, e0, e1], Calls.mono (H1.out w) (by rintro e w2 ⟨rfl, hb⟩; exact ⟨_, rfl, (r3 _ _).mpr rfl, fun j v _ h => K j v _ _ h, hB9.trans (hb.mono hB9.size)⟩)⟩)) ?_
      refine RV.AllDo.cons 4 (RV.does_pure (fun γ v L w hl h => h) (fun γ L a w hH hl hA => by have l0 : L 3 = true := hA ⟨3, .data⟩ (by simp) rfl; have e0 := hH.slot 3 8 d3 l0; have g0 := hH.holds 3 l0; rw [r3] at g0; rw [g0] at e0; exact ⟨.bool (true), by simp [execOp, go_sem, e0], (r4 _ _).mpr rfl⟩)) ?_
      refine RV.AllDo.cons 5 (RV.does_guarded rfl d4 (fun v w h => by rw [r4] at h; exact h) (by simp) (RV.does_pure (fun γ v L w hl h => h) (fun γ L a w hH hl hA => by have e0 := E1 γ L a w hH; exact ⟨.int .i64 (m), by simp [execOp, go_sem, e0], (r5 _ _).mpr rfl⟩))) ?_
      refine RV.AllDo.cons 6 (RV.does_guarded rfl d4 (fun v w h => by rw [r4] at h; exact h) (by simp) (RV.does_pure (fun γ v L w hl h => h) (fun γ L a w hH hl hA => by have l0 : L 5 = true := hA ⟨5, .data⟩ (by simp) rfl; have e0 := hH.slot 5 10 d5 l0; have g0 := hH.holds 5 l0; rw [r5] at g0; rw [g0] at e0; exact ⟨.int .i64 (mm), by simp [execOp, go_sem, e0, hmm], (r6 _ _).mpr rfl⟩))) ?_
      refine RV.AllDo.cons 7 (RV.does_guarded rfl d4 (fun v w h => by rw [r4] at h; exact h) (by simp) (RV.does_call (fun γ L a w hH hl hA => by have l0 : L 6 = true := hA ⟨6, .data⟩ (by simp) rfl; have e0 := hH.slot 6 11 d6 l0; have g0 := hH.holds 6 l0; rw [r6] at g0; rw [g0] at e0; have hB9 := hH.glob; exact ⟨75, #[.int .i64 (mm)], by simp [go_sem, e0], Calls.mono (K2.out w) (by rintro e w2 ⟨rfl, hb⟩; exact ⟨_, rfl, (r7 _ _).mpr rfl, fun j v _ h => K j v _ _ h, hB9.trans (hb.mono hB9.size)⟩)⟩))) ?_
      refine RV.AllDo.cons 8 (RV.does_guarded rfl d4 (fun v w h => by rw [r4] at h; exact h) (by simp) (RV.does_pure (fun γ v L w hl h => h) (fun γ L a w hH hl hA => by have e0 := E2 γ L a w hH; have hB9 := hH.glob; have z0 := c_after hB9 s0_; have z1 := c_after hB9 s1_; have z2 := c_after hB9 s2_; exact ⟨.agg #[.int .i64 (x), .int .i64 (y), .int .i64 (z)], by simp [execOp, go_sem, e0, z0, z1, z2], (r8 _ _).mpr rfl⟩))) ?_
      refine RV.AllDo.cons 9 (RV.does_guarded rfl d4 (fun v w h => by rw [r4] at h; exact h) (by simp) (RV.does_call (fun γ L a w hH hl hA => by have l0 : L 7 = true := hA ⟨7, .data⟩ (by simp) rfl; have e0 := hH.slot 7 12 d7 l0; have g0 := hH.holds 7 l0; rw [r7] at g0; rw [g0] at e0; have l1 : L 8 = true := hA ⟨8, .data⟩ (by simp) rfl; have e1 := hH.slot 8 13 d8 l1; have g1 := hH.holds 8 l1; rw [r8] at g1; rw [g1] at e1; have hB9 := hH.glob; exact ⟨56, #[.agg #[.int .i64 (mm), .int .i64 (mm), .int .i64 (mm)], .agg #[.int .i64 (x), .int .i64 (y), .int .i64 (z)]], by simp [go_sem, e0, e1], Calls.mono (H2.out w) (by rintro e w2 ⟨rfl, hb⟩; exact ⟨_, rfl, (r9 _ _).mpr rfl, fun j v _ h => K j v _ _ h, hB9.trans (hb.mono hB9.size)⟩)⟩))) ?_
      refine RV.AllDo.cons 10 (RV.does_pure (fun γ v L w hl h => h) (fun γ L a w hH hl hA => by have l0 : L 4 = true := hA ⟨4, .data⟩ (by simp) rfl; have e0 := hH.slot 4 9 d4 l0; have g0 := hH.holds 4 l0; rw [r4] at g0; rw [g0] at e0; have l1 : L 9 = true := hA ⟨9, .data⟩ (by simp) rfl; have e1 := hH.slot 9 14 d9 l1; have g1 := hH.holds 9 l1; rw [r9] at g1; rw [g1] at e1; exact ⟨.bool (R9), by simp [execOp, go_sem, e0, e1], (r10 _ _).mpr rfl⟩)) ?_
      refine RV.AllDo.cons 11 (RV.does_pure (fun γ v L w hl h => h) (fun γ L a w hH hl hA => by have l0 : L 10 = true := hA ⟨10, .data⟩ (by simp) rfl; have e0 := hH.slot 10 15 d10 l0; have g0 := hH.holds 10 l0; rw [r10] at g0; rw [g0] at e0; exact ⟨.bool (R9), by simp [execOp, go_sem, e0], (r11 _ _).mpr rfl⟩)) ?_
      exact RV.AllDo.nil
    · intro γ a5 w5 L9 hL hLo hH
      have ha := RV.held_act hH hL (by kernel_rfl) (by kernel_rfl)
      have hb8 := hH.glob
      have y0 : γ 0 = .agg #[.int .i64 (x), .int .i64 (y), .int .i64 (z)] := hH.holds 0 (hL 0 (by decide))
      have y1 : γ 1 = .int .i64 (m) := hH.holds 1 (hL 1 (by decide))
      have y2 : γ 2 = .agg #[.int .i64 (m), .int .i64 (m), .int .i64 (m)] := hH.holds 2 (hL 2 (by decide))
      have y3 : γ 3 = .bool (true) := hH.holds 3 (hL 3 (by decide))
      have y4 : γ 4 = .bool (true) := hH.holds 4 (hL 4 (by decide))
      have y5 : γ 5 = .int .i64 (m) := hH.holds 5 (hL 5 (by decide))
      have y6 : γ 6 = .int .i64 (mm) := hH.holds 6 (hL 6 (by decide))
      have y7 : γ 7 = .agg #[.int .i64 (mm), .int .i64 (mm), .int .i64 (mm)] := hH.holds 7 (hL 7 (by decide))
      have y8 : γ 8 = .agg #[.int .i64 (x), .int .i64 (y), .int .i64 (z)] := hH.holds 8 (hL 8 (by decide))
      have y9 : γ 9 = .bool (R9) := hH.holds 9 (hL 9 (by decide))
      have y10 : γ 10 = .bool (R9) := hH.holds 10 (hL 10 (by decide))
      have y11 : γ 11 = .bool (R9) := hH.holds 11 (hL 11 (by decide))
      rw [ha]
      clear ha hH hL hLo
      simp only [RV.putAll, Act.put, List.setIfInBounds_toArray, List.set_cons_zero, List.set_cons_succ, Nat.zero_add, Nat.reduceAdd, y0, y1, y2, y3, y4, y5, y6, y7, y8, y9, y10, y11]
      clear y0 y1 y2 y3 y4 y5 y6 y7 y8 y9 y10 y11
      have hE : Hid _ := b_step hD.out hb8
      go_wp2_with (fail)
      go_ret
      exact ⟨rfl, hE.out⟩
end Go.Proofs.YtocdompopadanaaGreat
