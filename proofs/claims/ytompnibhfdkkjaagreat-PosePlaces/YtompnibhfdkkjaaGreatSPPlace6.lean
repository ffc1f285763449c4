/- Package pose's Join and Grown, and the document's own Meet, Grown and Join: all inputs. -/
import Derived.Test.YtompnibhfdkkjaaGreatSPPlace5
namespace Go.Proofs.YtompnibhfdkkjaaGreat
open Go.RowKit Go.Shelf
set_option linter.unusedVariables false

def Bx.grown (a : Bx) (n : Int) : Bx := ⟨a.lo.plus ⟨IntKind.i64.wrap (-n), IntKind.i64.wrap (-n), IntKind.i64.wrap (-n)⟩, a.hi.plus ⟨n, n, n⟩⟩
theorem wrap_sub (x n : Int) : IntKind.i64.wrap (x - n) = IntKind.i64.wrap (x + IntKind.i64.wrap (-n)) := by simp only [IntKind.wrap_i64]; omega
theorem Cells.set6 {W : World} {b : Nat} {u0 u1 u2 u3 u4 u5 : Value} (h : Cells W b [u0, u1, u2, u3, u4, u5]) (v0 v1 v2 v3 v4 v5 : Value) : Cells ((((((W.setCell ⟨b, 0, none⟩ v0).setCell ⟨b, 1, none⟩ v1).setCell ⟨b, 2, none⟩ v2).setCell ⟨b, 3, none⟩ v3).setCell ⟨b, 4, none⟩ v4).setCell ⟨b, 5, none⟩ v5) b [v0, v1, v2, v3, v4, v5] :=
  (((((h.set 0 v0 (by simp)).set 1 v1 (by simp)).set 2 v2 (by simp)).set 3 v3 (by simp)).set 4 v4 (by simp)).set 5 v5 (by simp)
set_option maxHeartbeats 2000000 in
set_option maxRecDepth 100000 in
theorem join_any (a b : Bx) (w0 : World) :
    Calls Tryz.prog 37 #[a.v, b.v] w0 fun e W => e = .returned (a.join b).v ∧ Below w0.heap.size w0 W := by
  have H1 : Hid _ := fun w' => lesser_any a.lo b.lo w'
  have H2 : Hid _ := fun w' => greater_any a.hi b.hi w'
  unfold Bx.join Bx.v
  dsimp only
  generalize a.lo.lesser b.lo = l at *
  generalize a.hi.greater b.hi = g at *
  obtain ⟨lo0, lo1, lo2⟩ := l
  obtain ⟨hi0, hi1, hi2⟩ := g
  obtain ⟨⟨x, y, z⟩, ⟨xh, yh, zh⟩⟩ := a
  obtain ⟨⟨x', y', z'⟩, ⟨xh', yh', zh'⟩⟩ := b
  unfold Pt.v at H1 H2
  dsimp only at *
  go_enter Tryz.func37, Tryz.ntmps37
  go_upto_region 1 with fail
  obtain ⟨V, hV⟩ : ∃ V : World, V = (((w0.alloc (.cells #[.int .i64 x, .int .i64 y, .int .i64 z, .int .i64 xh, .int .i64 yh, .int .i64 zh] 39)).alloc (.cells #[.int .i64 x', .int .i64 y', .int .i64 z', .int .i64 xh', .int .i64 yh', .int .i64 zh'] 39)).alloc (.cells #[.int .i64 0, .int .i64 0, .int .i64 0, .int .i64 0, .int .i64 0, .int .i64 0] 39)) := ⟨_, rfl⟩
  have hD : Hid (Below w0.heap.size w0 V) := by rw [hV]; exact b_step (b_step (n_after w0 _) (n_after _ _)) (n_after _ _)
  have C1 : Hid (Cells V w0.heap.size [.int .i64 x, .int .i64 y, .int .i64 z, .int .i64 xh, .int .i64 yh, .int .i64 zh]) := by rw [hV]; exact Cells.step (Cells.new w0 [.int .i64 x, .int .i64 y, .int .i64 z, .int .i64 xh, .int .i64 yh, .int .i64 zh] _) (b_step (n_after _ _) (n_after _ _))
  have C2 : Hid (Cells V (w0.heap.size + 1) [.int .i64 x', .int .i64 y', .int .i64 z', .int .i64 xh', .int .i64 yh', .int .i64 zh']) := by rw [hV]; have := Cells.step (Cells.new (w0.alloc (.cells #[.int .i64 x, .int .i64 y, .int .i64 z, .int .i64 xh, .int .i64 yh, .int .i64 zh] 39)) [.int .i64 x', .int .i64 y', .int .i64 z', .int .i64 xh', .int .i64 yh', .int .i64 zh'] 39) (n_after _ (.cells #[.int .i64 0, .int .i64 0, .int .i64 0, .int .i64 0, .int .i64 0, .int .i64 0] 39)); rwa [World.size_alloc] at this
  have C3 : Hid (Cells V (w0.heap.size + 2) [.int .i64 0, .int .i64 0, .int .i64 0, .int .i64 0, .int .i64 0, .int .i64 0]) := by rw [hV]; have := Cells.new ((w0.alloc (.cells #[.int .i64 x, .int .i64 y, .int .i64 z, .int .i64 xh, .int .i64 yh, .int .i64 zh] 39)).alloc (.cells #[.int .i64 x', .int .i64 y', .int .i64 z', .int .i64 xh', .int .i64 yh', .int .i64 zh'] 39)) [.int .i64 0, .int .i64 0, .int .i64 0, .int .i64 0, .int .i64 0, .int .i64 0] 39; rwa [World.size_alloc, World.size_alloc] at this
  rw [← hV]
  clear hV
  obtain ⟨ba, hba⟩ : ∃ b, b = w0.heap.size := ⟨_, rfl⟩
  obtain ⟨bb, hbb⟩ : ∃ b, b = w0.heap.size + 1 := ⟨_, rfl⟩
  obtain ⟨br, hbr⟩ : ∃ b, b = w0.heap.size + 2 := ⟨_, rfl⟩
  have hbl : w0.heap.size ≤ br := by omega
  rw [show w0.heap.size + 1 + 1 = br by omega]
  rw [← hbb] at C2 ⊢
  rw [← hbr] at C3
  rw [← hba] at C1 ⊢
  clear hbb hba hbr
  have s0 := (C1.out 0 _ rfl).1
  have s1 := (C1.out 1 _ rfl).1
  have s2 := (C1.out 2 _ rfl).1
  have s3 := (C1.out 3 _ rfl).1
  have s4 := (C1.out 4 _ rfl).1
  have s5 := (C1.out 5 _ rfl).1
  have t0 := (C2.out 0 _ rfl).1
  have t1 := (C2.out 1 _ rfl).1
  have t2 := (C2.out 2 _ rfl).1
  have t3 := (C2.out 3 _ rfl).1
  have t4 := (C2.out 4 _ rfl).1
  have t5 := (C2.out 5 _ rfl).1
  have u0_ := (C3.out 0 _ rfl).1
  have v0_ := (C3.out 0 _ rfl).2
  have u1_ := (C3.out 1 _ rfl).1
  have v1_ := (C3.out 1 _ rfl).2
  have u2_ := (C3.out 2 _ rfl).1
  have v2_ := (C3.out 2 _ rfl).2
  have u3_ := (C3.out 3 _ rfl).1
  have v3_ := (C3.out 3 _ rfl).2
  have u4_ := (C3.out 4 _ rfl).1
  have v4_ := (C3.out 4 _ rfl).2
  have u5_ := (C3.out 5 _ rfl).1
  have v5_ := (C3.out 5 _ rfl).2

  refine RV.region_by (fun j v w => match j with | 0 => v = .pointer (some ⟨ba, 0, none⟩) | 1 => v = .agg #[.int .i64 (x), .int .i64 (y), .int .i64 (z)] | 2 => v = .pointer (some ⟨bb, 0, none⟩) | 3 => v = .agg #[.int .i64 (x'), .int .i64 (y'), .int .i64 (z')] | 4 => v = .agg #[.int .i64 (lo0), .int .i64 (lo1), .int .i64 (lo2)] | 5 => v = .pointer (some ⟨ba, 3, none⟩) | 6 => v = .agg #[.int .i64 (xh), .int .i64 (yh), .int .i64 (zh)] | 7 => v = .pointer (some ⟨bb, 3, none⟩) | 8 => v = .agg #[.int .i64 (xh'), .int .i64 (yh'), .int .i64 (zh')] | 9 => v = .agg #[.int .i64 (hi0), .int .i64 (hi1), .int .i64 (hi2)] | 10 => v = .agg #[.int .i64 (lo0), .int .i64 (lo1), .int .i64 (lo2), .int .i64 (hi0), .int .i64 (hi1), .int .i64 (hi2)] | 11 => True | _ => True) (fun γ L w9 => (L 11 = false ∧ Below V.heap.size V w9) ∨ (L 11 = true ∧ ∃ w, Below V.heap.size V w ∧ w9 = ((((((w.setCell ⟨br, 0, none⟩ (.int .i64 (lo0))).setCell ⟨br, 1, none⟩ (.int .i64 (lo1))).setCell ⟨br, 2, none⟩ (.int .i64 (lo2))).setCell ⟨br, 3, none⟩ (.int .i64 (hi0))).setCell ⟨br, 4, none⟩ (.int .i64 (hi1))).setCell ⟨br, 5, none⟩ (.int .i64 (hi2))))) (by kernel_rfl) (by kernel_rfl) (by kernel_rfl) (by kernel_rfl) ?_ ?_ ?_
  · exact Or.inl ⟨rfl, (Below.refl _ V).drew⟩
  · generalize hD : dstOf _ = D
    generalize hWA : waitsFor _ = WA
    generalize hZ : Act.mk _ _ = Z
    obtain ⟨R, hR⟩ : ∃ R : Nat → Value → World → Prop, R = (fun j v w => match j with | 0 => v = .pointer (some ⟨ba, 0, none⟩) | 1 => v = .agg #[.int .i64 (x), .int .i64 (y), .int .i64 (z)] | 2 => v = .pointer (some ⟨bb, 0, none⟩) | 3 => v = .agg #[.int .i64 (x'), .int .i64 (y'), .int .i64 (z')] | 4 => v = .agg #[.int .i64 (lo0), .int .i64 (lo1), .int .i64 (lo2)] | 5 => v = .pointer (some ⟨ba, 3, none⟩) | 6 => v = .agg #[.int .i64 (xh), .int .i64 (yh), .int .i64 (zh)] | 7 => v = .pointer (some ⟨bb, 3, none⟩) | 8 => v = .agg #[.int .i64 (xh'), .int .i64 (yh'), .int .i64 (zh')] | 9 => v = .agg #[.int .i64 (hi0), .int .i64 (hi1), .int .i64 (hi2)] | 10 => v = .agg #[.int .i64 (lo0), .int .i64 (lo1), .int .i64 (lo2), .int .i64 (hi0), .int .i64 (hi1), .int .i64 (hi2)] | 11 => True | _ => True) := ⟨_, rfl⟩
    rw [← hR]
    have d0 : D 0 = some 5 := by rw [← hD]; rfl
    have d1 : D 1 = some 6 := by rw [← hD]; rfl
    have d2 : D 2 = some 7 := by rw [← hD]; rfl
    have d3 : D 3 = some 8 := by rw [← hD]; rfl
    have d4 : D 4 = some 9 := by rw [← hD]; rfl
    have d5 : D 5 = some 10 := by rw [← hD]; rfl
    have d6 : D 6 = some 11 := by rw [← hD]; rfl
    have d7 : D 7 = some 12 := by rw [← hD]; rfl
    have d8 : D 8 = some 13 := by rw [← hD]; rfl
    have d9 : D 9 = some 14 := by rw [← hD]; rfl
    have d10 : D 10 = some 15 := by rw [← hD]; rfl
    have r0 : ∀ v w, R 0 v w = (v = .pointer (some ⟨ba, 0, none⟩)) := fun v w => by rw [hR]; rfl
    have r1 : ∀ v w, R 1 v w = (v = .agg #[.int .i64 (x), .int .i64 (y), .int .i64 (z)]) := fun v w => by rw [hR]; rfl
    have r2 : ∀ v w, R 2 v w = (v = .pointer (some ⟨bb, 0, none⟩)) := fun v w => by rw [hR]; rfl
    have r3 : ∀ v w, R 3 v w = (v = .agg #[.int .i64 (x'), .int .i64 (y'), .int .i64 (z')]) := fun v w => by rw [hR]; rfl
    have r4 : ∀ v w, R 4 v w = (v = .agg #[.int .i64 (lo0), .int .i64 (lo1), .int .i64 (lo2)]) := fun v w => by rw [hR]; rfl
    have r5 : ∀ v w, R 5 v w = (v = .pointer (some ⟨ba, 3, none⟩)) := fun v w => by rw [hR]; rfl
    have r6 : ∀ v w, R 6 v w = (v = .agg #[.int .i64 (xh), .int .i64 (yh), .int .i64 (zh)]) := fun v w => by rw [hR]; rfl
    have r7 : ∀ v w, R 7 v w = (v = .pointer (some ⟨bb, 3, none⟩)) := fun v w => by rw [hR]; rfl
    have r8 : ∀ v w, R 8 v w = (v = .agg #[.int .i64 (xh'), .int .i64 (yh'), .int .i64 (zh')]) := fun v w => by rw [hR]; rfl
    have r9 : ∀ v w, R 9 v w = (v = .agg #[.int .i64 (hi0), .int .i64 (hi1), .int .i64 (hi2)]) := fun v w => by rw [hR]; rfl
    have r10 : ∀ v w, R 10 v w = (v = .agg #[.int .i64 (lo0), .int .i64 (lo1), .int .i64 (lo2), .int .i64 (hi0), .int .i64 (hi1), .int .i64 (hi2)]) := fun v w => by rw [hR]; rfl
    have r11 : ∀ v w, R 11 v w = (True) := fun v w => by rw [hR]; rfl
    have E2 : ∀ (γ : Nat → Value) (L : Nat → Bool) (a : Act) (w : World), RV.Held D WA R (fun γ L w9 => (L 11 = false ∧ Below V.heap.size V w9) ∨ (L 11 = true ∧ ∃ w, Below V.heap.size V w ∧ w9 = ((((((w.setCell ⟨br, 0, none⟩ (.int .i64 (lo0))).setCell ⟨br, 1, none⟩ (.int .i64 (lo1))).setCell ⟨br, 2, none⟩ (.int .i64 (lo2))).setCell ⟨br, 3, none⟩ (.int .i64 (hi0))).setCell ⟨br, 4, none⟩ (.int .i64 (hi1))).setCell ⟨br, 5, none⟩ (.int .i64 (hi2))))) Z γ L a w → a.tmps[2]? = some (.pointer (some ⟨ba, 0, none⟩)) := fun γ L a w hH => (hH.rest 2 (by rw [← hD]; exact RV.dst_free (by kernel_rfl))).trans (by rw [← hZ]; rfl)
    have E3 : ∀ (γ : Nat → Value) (L : Nat → Bool) (a : Act) (w : World), RV.Held D WA R (fun γ L w9 => (L 11 = false ∧ Below V.heap.size V w9) ∨ (L 11 = true ∧ ∃ w, Below V.heap.size V w ∧ w9 = ((((((w.setCell ⟨br, 0, none⟩ (.int .i64 (lo0))).setCell ⟨br, 1, none⟩ (.int .i64 (lo1))).setCell ⟨br, 2, none⟩ (.int .i64 (lo2))).setCell ⟨br, 3, none⟩ (.int .i64 (hi0))).setCell ⟨br, 4, none⟩ (.int .i64 (hi1))).setCell ⟨br, 5, none⟩ (.int .i64 (hi2))))) Z γ L a w → a.tmps[3]? = some (.pointer (some ⟨bb, 0, none⟩)) := fun γ L a w hH => (hH.rest 3 (by rw [← hD]; exact RV.dst_free (by kernel_rfl))).trans (by rw [← hZ]; rfl)
    have E4 : ∀ (γ : Nat → Value) (L : Nat → Bool) (a : Act) (w : World), RV.Held D WA R (fun γ L w9 => (L 11 = false ∧ Below V.heap.size V w9) ∨ (L 11 = true ∧ ∃ w, Below V.heap.size V w ∧ w9 = ((((((w.setCell ⟨br, 0, none⟩ (.int .i64 (lo0))).setCell ⟨br, 1, none⟩ (.int .i64 (lo1))).setCell ⟨br, 2, none⟩ (.int .i64 (lo2))).setCell ⟨br, 3, none⟩ (.int .i64 (hi0))).setCell ⟨br, 4, none⟩ (.int .i64 (hi1))).setCell ⟨br, 5, none⟩ (.int .i64 (hi2))))) Z γ L a w → a.tmps[4]? = some (.pointer (some ⟨br, 0, none⟩)) := fun γ L a w hH => (hH.rest 4 (by rw [← hD]; exact RV.dst_free (by kernel_rfl))).trans (by rw [← hZ]; rfl)
    have K : ∀ j v w w', R j v w → R j v w' := by rw [hR]; intro j v w w' h; exact h
    have A_11_1 : WA 11 1 := by rw [← hWA]; exact ⟨_, rfl, ⟨1, .phase⟩, by simp, rfl, rfl⟩
    have A_11_3 : WA 11 3 := by rw [← hWA]; exact ⟨_, rfl, ⟨3, .phase⟩, by simp, rfl, rfl⟩
    have A_11_4 : WA 11 4 := by rw [← hWA]; exact ⟨_, rfl, ⟨4, .phase⟩, by simp, rfl, rfl⟩
    have A_11_6 : WA 11 6 := by rw [← hWA]; exact ⟨_, rfl, ⟨6, .phase⟩, by simp, rfl, rfl⟩
    have A_11_8 : WA 11 8 := by rw [← hWA]; exact ⟨_, rfl, ⟨8, .phase⟩, by simp, rfl, rfl⟩
    have A_11_9 : WA 11 9 := by rw [← hWA]; exact ⟨_, rfl, ⟨9, .phase⟩, by simp, rfl, rfl⟩
    clear hD hWA hZ hR
    refine RV.AllDo.cons 0 (RV.does_pure (fun γ v L w hl h => by rw [RV.more_ne (L := L) (i := 0) (j := 11) (by decide)]; exact h) (fun γ L a w hH hl hA => by have e0 := E2 γ L a w hH; exact ⟨.pointer (some ⟨ba, 0, none⟩), by simp [execOp, go_sem, e0], (r0 _ _).mpr rfl⟩)) ?_
    refine RV.AllDo.cons 1 (RV.does_pure (fun γ v L w hl h => by rw [RV.more_ne (L := L) (i := 1) (j := 11) (by decide)]; exact h) (fun γ L a w hH hl hA => by have l0 : L 0 = true := hA ⟨0, .data⟩ (by simp) rfl; have e0 := hH.slot 0 5 d0 l0; have g0 := hH.holds 0 l0; rw [r0] at g0; rw [g0] at e0; have hB9 := early9 hH.glob (RV.not_yet hH A_11_1 hl); have z0 := c_after hB9 s0; have z1 := c_after hB9 s1; have z2 := c_after hB9 s2; exact ⟨.agg #[.int .i64 (x), .int .i64 (y), .int .i64 (z)], by simp [execOp, go_sem, e0, z0, z1, z2], (r1 _ _).mpr rfl⟩)) ?_
    refine RV.AllDo.cons 2 (RV.does_pure (fun γ v L w hl h => by rw [RV.more_ne (L := L) (i := 2) (j := 11) (by decide)]; exact h) (fun γ L a w hH hl hA => by have e0 := E3 γ L a w hH; exact ⟨.pointer (some ⟨bb, 0, none⟩), by simp [execOp, go_sem, e0], (r2 _ _).mpr rfl⟩)) ?_
    refine RV.AllDo.cons 3 (RV.does_pure (fun γ v L w hl h => by rw [RV.more_ne (L := L) (i := 3) (j := 11) (by decide)]; exact h) (fun γ L a w hH hl hA => by have l0 : L 2 = true := hA ⟨2, .data⟩ (by simp) rfl; have e0 := hH.slot 2 7 d2 l0; have g0 := hH.holds 2 l0; rw [r2] at g0; rw [g0] at e0; have hB9 := early9 hH.glob (RV.not_yet hH A_11_3 hl); have z0 := c_after hB9 t0; have z1 := c_after hB9 t1; have z2 := c_after hB9 t2; exact ⟨.agg #[.int .i64 (x'), .int .i64 (y'), .int .i64 (z')], by simp [execOp, go_sem, e0, z0, z1, z2], (r3 _ _).mpr rfl⟩)) ?_
    refine RV.AllDo.cons 4 (RV.does_call (fun γ L a w hH hl hA => by have l0 : L 1 = true := hA ⟨1, .data⟩ (by simp) rfl; have e0 := hH.slot 1 6 d1 l0; have g0 := hH.holds 1 l0; rw [r1] at g0; rw [g0] at e0; have l1 : L 3 = true := hA ⟨3, .data⟩ (by simp) rfl; have e1 := hH.slot 3 8 d3 l1; have g1 := hH.holds 3 l1; rw [r3] at g1; rw [g1] at e1; have hB9 := early9 hH.glob (RV.not_yet hH A_11_4 hl); exact ⟨68, #[.agg #[.int .i64 (x), .int .i64 (y), .int .i64 (z)], .agg #[.int .i64 (x'), .int .i64 (y'), .int .i64 (z')]], by simp [go_sem, e0, e1], Calls.mono (H1.out w) (by rintro e w2 ⟨rfl, hb⟩; exact ⟨_, rfl, (r4 _ _).mpr rfl, fun j v _ h => K j v _ _ h, Or.inl ⟨by rw [RV.more_ne (L := L) (i := 4) (j := 11) (by decide)]; exact RV.not_yet hH A_11_4 hl, hB9.trans (hb.mono hB9.size)⟩⟩)⟩)) ?_
    refine RV.AllDo.cons 5 (RV.does_pure (fun γ v L w hl h => by rw [RV.more_ne (L := L) (i := 5) (j := 11) (by decide)]; exact h) (fun γ L a w hH hl hA => by have e0 := E2 γ L a w hH; exact ⟨.pointer (some ⟨ba, 3, none⟩), by simp [execOp, go_sem, e0], (r5 _ _).mpr rfl⟩)) ?_
    refine RV.AllDo.cons 6 (RV.does_pure (fun γ v L w hl h => by rw [RV.more_ne (L := L) (i := 6) (j := 11) (by decide)]; exact h) (fun γ L a w hH hl hA => by have l0 : L 5 = true := hA ⟨5, .data⟩ (by simp) rfl; have e0 := hH.slot 5 10 d5 l0; have g0 := hH.holds 5 l0; rw [r5] at g0; rw [g0] at e0; have hB9 := early9 hH.glob (RV.not_yet hH A_11_6 hl); have z0 := c_after hB9 s3; have z1 := c_after hB9 s4; have z2 := c_after hB9 s5; exact ⟨.agg #[.int .i64 (xh), .int .i64 (yh), .int .i64 (zh)], by simp [execOp, go_sem, e0, z0, z1, z2], (r6 _ _).mpr rfl⟩)) ?_
    refine RV.AllDo.cons 7 (RV.does_pure (fun γ v L w hl h => by rw [RV.more_ne (L := L) (i := 7) (j := 11) (by decide)]; exact h) (fun γ L a w hH hl hA => by have e0 := E3 γ L a w hH; exact ⟨.pointer (some ⟨bb, 3, none⟩), by simp [execOp, go_sem, e0], (r7 _ _).mpr rfl⟩)) ?_
    refine RV.AllDo.cons 8 (RV.does_pure (fun γ v L w hl h => by rw [RV.more_ne (L := L) (i := 8) (j := 11) (by decide)]; exact h) (fun γ L a w hH hl hA => by have l0 : L 7 = true := hA ⟨7, .data⟩ (by simp) rfl; have e0 := hH.slot 7 12 d7 l0; have g0 := hH.holds 7 l0; rw [r7] at g0; rw [g0] at e0; have hB9 := early9 hH.glob (RV.not_yet hH A_11_8 hl); have z0 := c_after hB9 t3; have z1 := c_after hB9 t4; have z2 := c_after hB9 t5; exact ⟨.agg #[.int .i64 (xh'), .int .i64 (yh'), .int .i64 (zh')], by simp [execOp, go_sem, e0, z0, z1, z2], (r8 _ _).mpr rfl⟩)) ?_
    refine RV.AllDo.cons 9 (RV.does_call (fun γ L a w hH hl hA => by have l0 : L 6 = true := hA ⟨6, .data⟩ (by simp) rfl; have e0 := hH.slot 6 11 d6 l0; have g0 := hH.holds 6 l0; rw [r6] at g0; rw [g0] at e0; have l1 : L 8 = true := hA ⟨8, .data⟩ (by simp) rfl; have e1 := hH.slot 8 13 d8 l1; have g1 := hH.holds 8 l1; rw [r8] at g1; rw [g1] at e1; have hB9 := early9 hH.glob (RV.not_yet hH A_11_9 hl); exact ⟨69, #[.agg #[.int .i64 (xh), .int .i64 (yh), .int .i64 (zh)], .agg #[.int .i64 (xh'), .int .i64 (yh'), .int .i64 (zh')]], by simp [go_sem, e0, e1], Calls.mono (H2.out w) (by rintro e w2 ⟨rfl, hb⟩; exact ⟨_, rfl, (r9 _ _).mpr rfl, fun j v _ h => K j v _ _ h, Or.inl ⟨by rw [RV.more_ne (L := L) (i := 9) (j := 11) (by decide)]; exact RV.not_yet hH A_11_9 hl, hB9.trans (hb.mono hB9.size)⟩⟩)⟩)) ?_
    refine RV.AllDo.cons 10 (RV.does_pure (fun γ v L w hl h => by rw [RV.more_ne (L := L) (i := 10) (j := 11) (by decide)]; exact h) (fun γ L a w hH hl hA => by have l0 : L 4 = true := hA ⟨4, .data⟩ (by simp) rfl; have e0 := hH.slot 4 9 d4 l0; have g0 := hH.holds 4 l0; rw [r4] at g0; rw [g0] at e0; have l1 : L 9 = true := hA ⟨9, .data⟩ (by simp) rfl; have e1 := hH.slot 9 14 d9 l1; have g1 := hH.holds 9 l1; rw [r9] at g1; rw [g1] at e1; exact ⟨.agg #[.int .i64 (lo0), .int .i64 (lo1), .int .i64 (lo2), .int .i64 (hi0), .int .i64 (hi1), .int .i64 (hi2)], by simp [execOp, go_sem, e0, e1], (r10 _ _).mpr rfl⟩)) ?_
    refine RV.AllDo.cons 11 (RV.does_store (fun γ L a w hH hl hA => by have e0 := E4 γ L a w hH; have l1 : L 10 = true := hA ⟨10, .data⟩ (by simp) rfl; have e1 := hH.slot 10 15 d10 l1; have g1 := hH.holds 10 l1; rw [r10] at g1; rw [g1] at e1; have hB9 := early9 hH.glob hl; have z0 := c_after hB9 u0_; have zf0 := f_after hB9 u0_ v0_; have z1 := c_after hB9 u1_; have zf1 := f_after hB9 u1_ v1_; have z2 := c_after hB9 u2_; have zf2 := f_after hB9 u2_ v2_; have z3 := c_after hB9 u3_; have zf3 := f_after hB9 u3_ v3_; have z4 := c_after hB9 u4_; have zf4 := f_after hB9 u4_ v4_; have z5 := c_after hB9 u5_; have zf5 := f_after hB9 u5_ v5_; exact ⟨((((((w.setCell ⟨br, 0, none⟩ (.int .i64 (lo0))).setCell ⟨br, 1, none⟩ (.int .i64 (lo1))).setCell ⟨br, 2, none⟩ (.int .i64 (lo2))).setCell ⟨br, 3, none⟩ (.int .i64 (hi0))).setCell ⟨br, 4, none⟩ (.int .i64 (hi1))).setCell ⟨br, 5, none⟩ (.int .i64 (hi2))), by simp [execOp, go_sem, e0, e1, z0, zf0, z1, zf1, z2, zf2, z3, zf3, z4, zf4, z5, zf5], (r11 _ _).mpr trivial, fun j v _ h => K j v _ _ h, Or.inr ⟨RV.more_self, w, hB9, rfl⟩⟩)) ?_
    exact RV.AllDo.nil
  · intro γ a5 w5 L9 hL hLo hH
    have ha := RV.held_act hH hL (by kernel_rfl) (by kernel_rfl)
    obtain ⟨w8, hb8, rfl⟩ := late9 hH.glob (hL 11 (by decide))
    have y0 : γ 0 = .pointer (some ⟨ba, 0, none⟩) := hH.holds 0 (hL 0 (by decide))
    have y1 : γ 1 = .agg #[.int .i64 (x), .int .i64 (y), .int .i64 (z)] := hH.holds 1 (hL 1 (by decide))
    have y2 : γ 2 = .pointer (some ⟨bb, 0, none⟩) := hH.holds 2 (hL 2 (by decide))
    have y3 : γ 3 = .agg #[.int .i64 (x'), .int .i64 (y'), .int .i64 (z')] := hH.holds 3 (hL 3 (by decide))
    have y4 : γ 4 = .agg #[.int .i64 (lo0), .int .i64 (lo1), .int .i64 (lo2)] := hH.holds 4 (hL 4 (by decide))
    have y5 : γ 5 = .pointer (some ⟨ba, 3, none⟩) := hH.holds 5 (hL 5 (by decide))
    have y6 : γ 6 = .agg #[.int .i64 (xh), .int .i64 (yh), .int .i64 (zh)] := hH.holds 6 (hL 6 (by decide))
    have y7 : γ 7 = .pointer (some ⟨bb, 3, none⟩) := hH.holds 7 (hL 7 (by decide))
    have y8 : γ 8 = .agg #[.int .i64 (xh'), .int .i64 (yh'), .int .i64 (zh')] := hH.holds 8 (hL 8 (by decide))
    have y9 : γ 9 = .agg #[.int .i64 (hi0), .int .i64 (hi1), .int .i64 (hi2)] := hH.holds 9 (hL 9 (by decide))
    have y10 : γ 10 = .agg #[.int .i64 (lo0), .int .i64 (lo1), .int .i64 (lo2), .int .i64 (hi0), .int .i64 (hi1), .int .i64 (hi2)] := hH.holds 10 (hL 10 (by decide))
    rw [ha]
    clear ha hH hL hLo
    simp only [RV.putAll, Act.put, List.setIfInBounds_toArray, List.set_cons_zero, List.set_cons_succ, Nat.zero_add, Nat.reduceAdd, y0, y1, y2, y3, y4, y5, y6, y7, y8, y9, y10]
    clear y0 y1 y2 y3 y4 y5 y6 y7 y8 y9 y10
    have E := Cells.set6 (Cells.step C3.out hb8) (.int .i64 (lo0)) (.int .i64 (lo1)) (.int .i64 (lo2)) (.int .i64 (hi0)) (.int .i64 (hi1)) (.int .i64 (hi2))
    have r0 := (E 0 _ rfl).1
    have r1 := (E 1 _ rfl).1
    have r2 := (E 2 _ rfl).1
    have r3 := (E 3 _ rfl).1
    have r4 := (E 4 _ rfl).1
    have r5 := (E 5 _ rfl).1
    go_wp2_with (fail)
    refine bodyPost_ret (v := .agg #[.int .i64 (lo0), .int .i64 (lo1), .int .i64 (lo2), .int .i64 (hi0), .int .i64 (hi1), .int .i64 (hi2)]) (by simp [results, Tryz.results37, go_sem, r0, r1, r2, r3, r4, r5]) rfl ⟨rfl, ?_⟩
    exact ((((((b_step hD.out hb8).setCell hbl _).setCell hbl _).setCell hbl _).setCell hbl _).setCell hbl _).setCell hbl _
set_option maxHeartbeats 2000000 in
set_option maxRecDepth 100000 in
theorem grown_any (a : Bx) (n : Int) (w0 : World) :
    Calls Tryz.prog 38 #[a.v, .int .i64 n] w0 fun e W => e = .returned (a.grown n).v ∧ Below w0.heap.size w0 W := by
  obtain ⟨nn, hnn⟩ : ∃ nn, IntKind.i64.wrap (-n) = nn := ⟨_, rfl⟩
  have K1 : Hid _ := fun w' => pthrice_any nn w'
  have K2 : Hid _ := fun w' => pthrice_any n w'
  have H1 : Hid _ := fun w' => pplus_any a.lo ⟨nn, nn, nn⟩ w'
  have H2 : Hid _ := fun w' => pplus_any a.hi ⟨n, n, n⟩ w'
  unfold Bx.grown Bx.v
  dsimp only
  rw [hnn]
  generalize a.lo.plus ⟨nn, nn, nn⟩ = l at *
  generalize a.hi.plus ⟨n, n, n⟩ = g at *
  obtain ⟨lo0, lo1, lo2⟩ := l
  obtain ⟨hi0, hi1, hi2⟩ := g
  obtain ⟨⟨x, y, z⟩, ⟨xh, yh, zh⟩⟩ := a
  unfold Pt.v at H1 H2 K1 K2
  dsimp only at *
  go_enter Tryz.func38, Tryz.ntmps38
  go_upto_region 1 with fail
  obtain ⟨V, hV⟩ : ∃ V : World, V = ((w0.alloc (.cells #[.int .i64 x, .int .i64 y, .int .i64 z, .int .i64 xh, .int .i64 yh, .int .i64 zh] 39)).alloc (.cells #[.int .i64 0, .int .i64 0, .int .i64 0, .int .i64 0, .int .i64 0, .int .i64 0] 39)) := ⟨_, rfl⟩
  have hD : Hid (Below w0.heap.size w0 V) := by rw [hV]; exact b_step (n_after w0 _) (n_after _ _)
  have C1 : Hid (Cells V w0.heap.size [.int .i64 x, .int .i64 y, .int .i64 z, .int .i64 xh, .int .i64 yh, .int .i64 zh]) := by rw [hV]; exact Cells.step (Cells.new w0 [.int .i64 x, .int .i64 y, .int .i64 z, .int .i64 xh, .int .i64 yh, .int .i64 zh] _) (n_after _ _)
  have C3 : Hid (Cells V (w0.heap.size + 1) [.int .i64 0, .int .i64 0, .int .i64 0, .int .i64 0, .int .i64 0, .int .i64 0]) := by rw [hV]; have := Cells.new (w0.alloc (.cells #[.int .i64 x, .int .i64 y, .int .i64 z, .int .i64 xh, .int .i64 yh, .int .i64 zh] 39)) [.int .i64 0, .int .i64 0, .int .i64 0, .int .i64 0, .int .i64 0, .int .i64 0] 39; rwa [World.size_alloc] at this
  rw [← hV]
  clear hV
  obtain ⟨ba, hba⟩ : ∃ b, b = w0.heap.size := ⟨_, rfl⟩
  obtain ⟨br, hbr⟩ : ∃ b, b = w0.heap.size + 1 := ⟨_, rfl⟩
  have hbl : w0.heap.size ≤ br := by omega
  rw [← hbr] at C3 ⊢
  rw [← hba] at C1 ⊢
  clear hba hbr
  have s0 := (C1.out 0 _ rfl).1
  have s1 := (C1.out 1 _ rfl).1
  have s2 := (C1.out 2 _ rfl).1
  have s3 := (C1.out 3 _ rfl).1
  have s4 := (C1.out 4 _ rfl).1
  have s5 := (C1.out 5 _ rfl).1
  have u0_ := (C3.out 0 _ rfl).1
  have v0_ := (C3.out 0 _ rfl).2
  have u1_ := (C3.out 1 _ rfl).1
  have v1_ := (C3.out 1 _ rfl).2
  have u2_ := (C3.out 2 _ rfl).1
  have v2_ := (C3.out 2 _ rfl).2
  have u3_ := (C3.out 3 _ rfl).1
  have v3_ := (C3.out 3 _ rfl).2
  have u4_ := (C3.out 4 _ rfl).1
  have v4_ := (C3.out 4 _ rfl).2
  have u5_ := (C3.out 5 _ rfl).1
  have v5_ := (C3.out 5 _ rfl).2

  refine RV.region_by (fun j v w => match j with | 0 => v = .pointer (some ⟨ba, 0, none⟩) | 1 => v = .agg #[.int .i64 (x), .int .i64 (y), .int .i64 (z)] | 2 => v = .int .i64 (n) | 3 => v = .int .i64 (nn) | 4 => v = .agg #[.int .i64 (nn), .int .i64 (nn), .int .i64 (nn)] | 5 => v = .agg #[.int .i64 (lo0), .int .i64 (lo1), .int .i64 (lo2)] | 6 => v = .pointer (some ⟨ba, 3, none⟩) | 7 => v = .agg #[.int .i64 (xh), .int .i64 (yh), .int .i64 (zh)] | 8 => v = .int .i64 (n) | 9 => v = .agg #[.int .i64 (n), .int .i64 (n), .int .i64 (n)] | 10 => v = .agg #[.int .i64 (hi0), .int .i64 (hi1), .int .i64 (hi2)] | 11 => v = .agg #[.int .i64 (lo0), .int .i64 (lo1), .int .i64 (lo2), .int .i64 (hi0), .int .i64 (hi1), .int .i64 (hi2)] | 12 => True | _ => True) (fun γ L w9 => (L 12 = false ∧ Below V.heap.size V w9) ∨ (L 12 = true ∧ ∃ w, Below V.heap.size V w ∧ w9 = ((((((w.setCell ⟨br, 0, none⟩ (.int .i64 (lo0))).setCell ⟨br, 1, none⟩ (.int .i64 (lo1))).setCell ⟨br, 2, none⟩ (.int .i64 (lo2))).setCell ⟨br, 3, none⟩ (.int .i64 (hi0))).setCell ⟨br, 4, none⟩ (.int .i64 (hi1))).setCell ⟨br, 5, none⟩ (.int .i64 (hi2))))) (by kernel_rfl) (by kernel_rfl) (by kernel_rfl) (by kernel_rfl) ?_ ?_ ?_
  · exact Or.inl ⟨rfl, (Below.refl _ V).drew⟩
  · generalize hD : dstOf _ = D
    generalize hWA : waitsFor _ = WA
    generalize hZ : Act.mk _ _ = Z
    obtain ⟨R, hR⟩ : ∃ R : Nat → Value → World → Prop, R = (fun j v w => match j with | 0 => v = .pointer (some ⟨ba, 0, none⟩) | 1 => v = .agg #[.int .i64 (x), .int .i64 (y), .int .i64 (z)] | 2 => v = .int .i64 (n) | 3 => v = .int .i64 (nn) | 4 => v = .agg #[.int .i64 (nn), .int .i64 (nn), .int .i64 (nn)] | 5 => v = .agg #[.int .i64 (lo0), .int .i64 (lo1), .int .i64 (lo2)] | 6 => v = .pointer (some ⟨ba, 3, none⟩) | 7 => v = .agg #[.int .i64 (xh), .int .i64 (yh), .int .i64 (zh)] | 8 => v = .int .i64 (n) | 9 => v = .agg #[.int .i64 (n), .int .i64 (n), .int .i64 (n)] | 10 => v = .agg #[.int .i64 (hi0), .int .i64 (hi1), .int .i64 (hi2)] | 11 => v = .agg #[.int .i64 (lo0), .int .i64 (lo1), .int .i64 (lo2), .int .i64 (hi0), .int .i64 (hi1), .int .i64 (hi2)] | 12 => True | _ => True) := ⟨_, rfl⟩
    rw [← hR]
    have d0 : D 0 = some 5 := by rw [← hD]; rfl
    have d1 : D 1 = some 6 := by rw [← hD]; rfl
    have d2 : D 2 = some 7 := by rw [← hD]; rfl
    have d3 : D 3 = some 8 := by rw [← hD]; rfl
    have d4 : D 4 = some 9 := by rw [← hD]; rfl
    have d5 : D 5 = some 10 := by rw [← hD]; rfl
    have d6 : D 6 = some 11 := by rw [← hD]; rfl
    have d7 : D 7 = some 12 := by rw [← hD]; rfl
    have d8 : D 8 = some 13 := by rw [← hD]; rfl
    have d9 : D 9 = some 14 := by rw [← hD]; rfl
    have d10 : D 10 = some 15 := by rw [← hD]; rfl
    have d11 : D 11 = some 16 := by rw [← hD]; rfl
    have r0 : ∀ v w, R 0 v w = (v = .pointer (some ⟨ba, 0, none⟩)) := fun v w => by rw [hR]; rfl
    have r1 : ∀ v w, R 1 v w = (v = .agg #[.int .i64 (x), .int .i64 (y), .int .i64 (z)]) := fun v w => by rw [hR]; rfl
    have r2 : ∀ v w, R 2 v w = (v = .int .i64 (n)) := fun v w => by rw [hR]; rfl
    have r3 : ∀ v w, R 3 v w = (v = .int .i64 (nn)) := fun v w => by rw [hR]; rfl
    have r4 : ∀ v w, R 4 v w = (v = .agg #[.int .i64 (nn), .int .i64 (nn), .int .i64 (nn)]) := fun v w => by rw [hR]; rfl
    have r5 : ∀ v w, R 5 v w = (v = .agg #[.int .i64 (lo0), .int .i64 (lo1), .int .i64 (lo2)]) := fun v w => by rw [hR]; rfl
    have r6 : ∀ v w, R 6 v w = (v = .pointer (some ⟨ba, 3, none⟩)) := fun v w => by rw [hR]; rfl
    have r7 : ∀ v w, R 7 v w = (v = .agg #[.int .i64 (xh), .int .i64 (yh), .int .i64 (zh)]) := fun v w => by rw [hR]; rfl
    have r8 : ∀ v w, R 8 v w = (v = .int .i64 (n)) := fun v w => by rw [hR]; rfl
    have r9 : ∀ v w, R 9 v w = (v = .agg #[.int .i64 (n), .int .i64 (n), .int .i64 (n)]) := fun v w => by rw [hR]; rfl
    have r10 : ∀ v w, R 10 v w = (v = .agg #[.int .i64 (hi0), .int .i64 (hi1), .int .i64 (hi2)]) := fun v w => by rw [hR]; rfl
    have r11 : ∀ v w, R 11 v w = (v = .agg #[.int .i64 (lo0), .int .i64 (lo1), .int .i64 (lo2), .int .i64 (hi0), .int .i64 (hi1), .int .i64 (hi2)]) := fun v w => by rw [hR]; rfl
    have r12 : ∀ v w, R 12 v w = (True) := fun v w => by rw [hR]; rfl
    have E1 : ∀ (γ : Nat → Value) (L : Nat → Bool) (a : Act) (w : World), RV.Held D WA R (fun γ L w9 => (L 12 = false ∧ Below V.heap.size V w9) ∨ (L 12 = true ∧ ∃ w, Below V.heap.size V w ∧ w9 = ((((((w.setCell ⟨br, 0, none⟩ (.int .i64 (lo0))).setCell ⟨br, 1, none⟩ (.int .i64 (lo1))).setCell ⟨br, 2, none⟩ (.int .i64 (lo2))).setCell ⟨br, 3, none⟩ (.int .i64 (hi0))).setCell ⟨br, 4, none⟩ (.int .i64 (hi1))).setCell ⟨br, 5, none⟩ (.int .i64 (hi2))))) Z γ L a w → a.tmps[1]? = some (.int .i64 (n)) := fun γ L a w hH => (hH.rest 1 (by rw [← hD]; exact RV.dst_free (by kernel_rfl))).trans (by rw [← hZ]; rfl)
    have E2 : ∀ (γ : Nat → Value) (L : Nat → Bool) (a : Act) (w : World), RV.Held D WA R (fun γ L w9 => (L 12 = false ∧ Below V.heap.size V w9) ∨ (L 12 = true ∧ ∃ w, Below V.heap.size V w ∧ w9 = ((((((w.setCell ⟨br, 0, none⟩ (.int .i64 (lo0))).setCell ⟨br, 1, none⟩ (.int .i64 (lo1))).setCell ⟨br, 2, none⟩ (.int .i64 (lo2))).setCell ⟨br, 3, none⟩ (.int .i64 (hi0))).setCell ⟨br, 4, none⟩ (.int .i64 (hi1))).setCell ⟨br, 5, none⟩ (.int .i64 (hi2))))) Z γ L a w → a.tmps[2]? = some (.pointer (some ⟨ba, 0, none⟩)) := fun γ L a w hH => (hH.rest 2 (by rw [← hD]; exact RV.dst_free (by kernel_rfl))).trans (by rw [← hZ]; rfl)
    have E4 : ∀ (γ : Nat → Value) (L : Nat → Bool) (a : Act) (w : World), RV.Held D WA R (fun γ L w9 => (L 12 = false ∧ Below V.heap.size V w9) ∨ (L 12 = true ∧ ∃ w, Below V.heap.size V w ∧ w9 = ((((((w.setCell ⟨br, 0, none⟩ (.int .i64 (lo0))).setCell ⟨br, 1, none⟩ (.int .i64 (lo1))).setCell ⟨br, 2, none⟩ (.int .i64 (lo2))).setCell ⟨br, 3, none⟩ (.int .i64 (hi0))).setCell ⟨br, 4, none⟩ (.int .i64 (hi1))).setCell ⟨br, 5, none⟩ (.int .i64 (hi2))))) Z γ L a w → a.tmps[4]? = some (.pointer (some ⟨br, 0, none⟩)) := fun γ L a w hH => (hH.rest 4 (by rw [← hD]; exact RV.dst_free (by kernel_rfl))).trans (by rw [← hZ]; rfl)
    have K : ∀ j v w w', R j v w → R j v w' := by rw [hR]; intro j v w w' h; exact h
    have A_12_1 : WA 12 1 := by rw [← hWA]; exact ⟨_, rfl, ⟨1, .phase⟩, by simp, rfl, rfl⟩
    have A_12_4 : WA 12 4 := by rw [← hWA]; exact ⟨_, rfl, ⟨4, .phase⟩, by simp, rfl, rfl⟩
    have A_12_5 : WA 12 5 := by rw [← hWA]; exact ⟨_, rfl, ⟨5, .phase⟩, by simp, rfl, rfl⟩
    have A_12_7 : WA 12 7 := by rw [← hWA]; exact ⟨_, rfl, ⟨7, .phase⟩, by simp, rfl, rfl⟩
    have A_12_9 : WA 12 9 := by rw [← hWA]; exact ⟨_, rfl, ⟨9, .phase⟩, by simp, rfl, rfl⟩
    have A_12_10 : WA 12 10 := by rw [← hWA]; exact ⟨_, rfl, ⟨10, .phase⟩, by simp, rfl, rfl⟩
    clear hD hWA hZ hR
    refine RV.AllDo.cons 0 (RV.does_pure (fun γ v L w hl h => by rw [RV.more_ne (L := L) (i := 0) (j := 12) (by decide)]; exact h) (fun γ L a w hH hl hA => by have e0 := E2 γ L a w hH; exact ⟨.pointer (some ⟨ba, 0, none⟩), by simp [execOp, go_sem, e0], (r0 _ _).mpr rfl⟩)) ?_
    refine RV.AllDo.cons 1 (RV.does_pure (fun γ v L w hl h => by rw [RV.more_ne (L := L) (i := 1) (j := 12) (by decide)]; exact h) (fun γ L a w hH hl hA => by have l0 : L 0 = true := hA ⟨0, .data⟩ (by simp) rfl; have e0 := hH.slot 0 5 d0 l0; have g0 := hH.holds 0 l0; rw [r0] at g0; rw [g0] at e0; have hB9 := early9 hH.glob (RV.not_yet hH A_12_1 hl); have z0 := c_after hB9 s0; have z1 := c_after hB9 s1; have z2 := c_after hB9 s2; exact ⟨.agg #[.int .i64 (x), .int .i64 (y), .int .i64 (z)], by simp [execOp, go_sem, e0, z0, z1, z2], (r1 _ _).mpr rfl⟩)) ?_
    refine RV.AllDo.cons 2 (RV.does_pure (fun γ v L w hl h => by rw [RV.more_ne (L := L) (i := 2) (j := 12) (by decide)]; exact h) (fun γ L a w hH hl hA => by have e0 := E1 γ L a w hH; exact ⟨.int .i64 (n), by simp [execOp, go_sem, e0], (r2 _ _).mpr rfl⟩)) ?_
    refine RV.AllDo.cons 3 (RV.does_pure (fun γ v L w hl h => by rw [RV.more_ne (L := L) (i := 3) (j := 12) (by decide)]; exact h) (fun γ L a w hH hl hA => by have l0 : L 2 = true := hA ⟨2, .data⟩ (by simp) rfl; have e0 := hH.slot 2 7 d2 l0; have g0 := hH.holds 2 l0; rw [r2] at g0; rw [g0] at e0; exact ⟨.int .i64 (nn), by simp [execOp, go_sem, e0, hnn], (r3 _ _).mpr rfl⟩)) ?_
    refine RV.AllDo.cons 4 (RV.does_call (fun γ L a w hH hl hA => by have l0 : L 3 = true := hA ⟨3, .data⟩ (by simp) rfl; have e0 := hH.slot 3 8 d3 l0; have g0 := hH.holds 3 l0; rw [r3] at g0; rw [g0] at e0; have hB9 := early9 hH.glob (RV.not_yet hH A_12_4 hl); exact ⟨70, #[.int .i64 (nn)], by simp [go_sem, e0], Calls.mono (K1.out w) (by rintro e w2 ⟨rfl, hb⟩; exact ⟨_, rfl, (r4 _ _).mpr rfl, fun j v _ h => K j v _ _ h, Or.inl ⟨by rw [RV.more_ne (L := L) (i := 4) (j := 12) (by decide)]; exact RV.not_yet hH A_12_4 hl, hB9.trans (hb.mono hB9.size)⟩⟩)⟩)) ?_
    refine RV.AllDo.cons 5 (RV.does_call (fun γ L a w hH hl hA => by have l0 : L 1 = true := hA ⟨1, .data⟩ (by simp) rfl; have e0 := hH.slot 1 6 d1 l0; have g0 := hH.holds 1 l0; rw [r1] at g0; rw [g0] at e0; have l1 : L 4 = true := hA ⟨4, .data⟩ (by simp) rfl; have e1 := hH.slot 4 9 d4 l1; have g1 := hH.holds 4 l1; rw [r4] at g1; rw [g1] at e1; have hB9 := early9 hH.glob (RV.not_yet hH A_12_5 hl); exact ⟨33, #[.agg #[.int .i64 (x), .int .i64 (y), .int .i64 (z)], .agg #[.int .i64 (nn), .int .i64 (nn), .int .i64 (nn)]], by simp [go_sem, e0, e1], Calls.mono (H1.out w) (by rintro e w2 ⟨rfl, hb⟩; exact ⟨_, rfl, (r5 _ _).mpr rfl, fun j v _ h => K j v _ _ h, Or.inl ⟨by rw [RV.more_ne (L := L) (i := 5) (j := 12) (by decide)]; exact RV.not_yet hH A_12_5 hl, hB9.trans (hb.mono hB9.size)⟩⟩)⟩)) ?_
    refine RV.AllDo.cons 6 (RV.does_pure (fun γ v L w hl h => by rw [RV.more_ne (L := L) (i := 6) (j := 12) (by decide)]; exact h) (fun γ L a w hH hl hA => by have e0 := E2 γ L a w hH; exact ⟨.pointer (some ⟨ba, 3, none⟩), by simp [execOp, go_sem, e0], (r6 _ _).mpr rfl⟩)) ?_
    refine RV.AllDo.cons 7 (RV.does_pure (fun γ v L w hl h => by rw [RV.more_ne (L := L) (i := 7) (j := 12) (by decide)]; exact h) (fun γ L a w hH hl hA => by have l0 : L 6 = true := hA ⟨6, .data⟩ (by simp) rfl; have e0 := hH.slot 6 11 d6 l0; have g0 := hH.holds 6 l0; rw [r6] at g0; rw [g0] at e0; have hB9 := early9 hH.glob (RV.not_yet hH A_12_7 hl); have z0 := c_after hB9 s3; have z1 := c_after hB9 s4; have z2 := c_after hB9 s5; exact ⟨.agg #[.int .i64 (xh), .int .i64 (yh), .int .i64 (zh)], by simp [execOp, go_sem, e0, z0, z1, z2], (r7 _ _).mpr rfl⟩)) ?_
    refine RV.AllDo.cons 8 (RV.does_pure (fun γ v L w hl h => by rw [RV.more_ne (L := L) (i := 8) (j := 12) (by decide)]; exact h) (fun γ L a w hH hl hA => by have e0 := E1 γ L a w hH; exact ⟨.int .i64 (n), by simp [execOp, go_sem, e0], (r8 _ _).mpr rfl⟩)) ?_
    refine RV.AllDo.cons 9 (RV.does_call (fun γ L a w hH hl hA => by have l0 : L 8 = true := hA ⟨8, .data⟩ (by simp) rfl; have e0 := hH.slot 8 13 d8 l0; have g0 := hH.holds 8 l0; rw [r8] at g0; rw [g0] at e0; have hB9 := early9 hH.glob (RV.not_yet hH A_12_9 hl); exact ⟨70, #[.int .i64 (n)], by simp [go_sem, e0], Calls.mono (K2.out w) (by rintro e w2 ⟨rfl, hb⟩; exact ⟨_, rfl, (r9 _ _).mpr rfl, fun j v _ h => K j v _ _ h, Or.inl ⟨by rw [RV.more_ne (L := L) (i := 9) (j := 12) (by decide)]; exact RV.not_yet hH A_12_9 hl, hB9.trans (hb.mono hB9.size)⟩⟩)⟩)) ?_
    refine RV.AllDo.cons 10 (RV.does_call (fun γ L a w hH hl hA => by have l0 : L 7 = true := hA ⟨7, .data⟩ (by simp) rfl; have e0 := hH.slot 7 12 d7 l0; have g0 := hH.holds 7 l0; rw [r7] at g0; rw [g0] at e0; have l1 : L 9 = true := hA ⟨9, .data⟩ (by simp) rfl; have e1 := hH.slot 9 14 d9 l1; have g1 := hH.holds 9 l1; rw [r9] at g1; rw [g1] at e1; have hB9 := early9 hH.glob (RV.not_yet hH A_12_10 hl); exact ⟨33, #[.agg #[.int .i64 (xh), .int .i64 (yh), .int .i64 (zh)], .agg #[.int .i64 (n), .int .i64 (n), .int .i64 (n)]], by simp [go_sem, e0, e1], Calls.mono (H2.out w) (by rintro e w2 ⟨rfl, hb⟩; exact ⟨_, rfl, (r10 _ _).mpr rfl, fun j v _ h => K j v _ _ h, Or.inl ⟨by rw [RV.more_ne (L := L) (i := 10) (j := 12) (by decide)]; exact RV.not_yet hH A_12_10 hl, hB9.trans (hb.mono hB9.size)⟩⟩)⟩)) ?_
    refine RV.AllDo.cons 11 (RV.does_pure (fun γ v L w hl h => by rw [RV.more_ne (L := L) (i := 11) (j := 12) (by decide)]; exact h) (fun γ L a w hH hl hA => by have l0 : L 5 = true := hA ⟨5, .data⟩ (by simp) rfl; have e0 := hH.slot 5 10 d5 l0; have g0 := hH.holds 5 l0; rw [r5] at g0; rw [g0] at e0; have l1 : L 10 = true := hA ⟨10, .data⟩ (by simp) rfl; have e1 := hH.slot 10 15 d10 l1; have g1 := hH.holds 10 l1; rw [r10] at g1; rw [g1] at e1; exact ⟨.agg #[.int .i64 (lo0), .int .i64 (lo1), .int .i64 (lo2), .int .i64 (hi0), .int .i64 (hi1), .int .i64 (hi2)], by simp [execOp, go_sem, e0, e1], (r11 _ _).mpr rfl⟩)) ?_
    refine RV.AllDo.cons 12 (RV.does_store (fun γ L a w hH hl hA => by have e0 := E4 γ L a w hH; have l1 : L 11 = true := hA ⟨11, .data⟩ (by simp) rfl; have e1 := hH.slot 11 16 d11 l1; have g1 := hH.holds 11 l1; rw [r11] at g1; rw [g1] at e1; have hB9 := early9 hH.glob hl; have z0 := c_after hB9 u0_; have zf0 := f_after hB9 u0_ v0_; have z1 := c_after hB9 u1_; have zf1 := f_after hB9 u1_ v1_; have z2 := c_after hB9 u2_; have zf2 := f_after hB9 u2_ v2_; have z3 := c_after hB9 u3_; have zf3 := f_after hB9 u3_ v3_; have z4 := c_after hB9 u4_; have zf4 := f_after hB9 u4_ v4_; have z5 := c_after hB9 u5_; have zf5 := f_after hB9 u5_ v5_; exact ⟨((((((w.setCell ⟨br, 0, none⟩ (.int .i64 (lo0))).setCell ⟨br, 1, none⟩ (.int .i64 (lo1))).setCell ⟨br, 2, none⟩ (.int .i64 (lo2))).setCell ⟨br, 3, none⟩ (.int .i64 (hi0))).setCell ⟨br, 4, none⟩ (.int .i64 (hi1))).setCell ⟨br, 5, none⟩ (.int .i64 (hi2))), by simp [execOp, go_sem, e0, e1, z0, zf0, z1, zf1, z2, zf2, z3, zf3, z4, zf4, z5, zf5], (r12 _ _).mpr trivial, fun j v _ h => K j v _ _ h, Or.inr ⟨RV.more_self, w, hB9, rfl⟩⟩)) ?_
    exact RV.AllDo.nil
  · intro γ a5 w5 L9 hL hLo hH
    have ha := RV.held_act hH hL (by kernel_rfl) (by kernel_rfl)
    obtain ⟨w8, hb8, rfl⟩ := late9 hH.glob (hL 12 (by decide))
    have y0 : γ 0 = .pointer (some ⟨ba, 0, none⟩) := hH.holds 0 (hL 0 (by decide))
    have y1 : γ 1 = .agg #[.int .i64 (x), .int .i64 (y), .int .i64 (z)] := hH.holds 1 (hL 1 (by decide))
    have y2 : γ 2 = .int .i64 (n) := hH.holds 2 (hL 2 (by decide))
    have y3 : γ 3 = .int .i64 (nn) := hH.holds 3 (hL 3 (by decide))
    have y4 : γ 4 = .agg #[.int .i64 (nn), .int .i64 (nn), .int .i64 (nn)] := hH.holds 4 (hL 4 (by decide))
    have y5 : γ 5 = .agg #[.int .i64 (lo0), .int .i64 (lo1), .int .i64 (lo2)] := hH.holds 5 (hL 5 (by decide))
    have y6 : γ 6 = .pointer (some ⟨ba, 3, none⟩) := hH.holds 6 (hL 6 (by decide))
    have y7 : γ 7 = .agg #[.int .i64 (xh), .int .i64 (yh), .int .i64 (zh)] := hH.holds 7 (hL 7 (by decide))
    have y8 : γ 8 = .int .i64 (n) := hH.holds 8 (hL 8 (by decide))
    have y9 : γ 9 = .agg #[.int .i64 (n), .int .i64 (n), .int .i64 (n)] := hH.holds 9 (hL 9 (by decide))
    have y10 : γ 10 = .agg #[.int .i64 (hi0), .int .i64 (hi1), .int .i64 (hi2)] := hH.holds 10 (hL 10 (by decide))
    have y11 : γ 11 = .agg #[.int .i64 (lo0), .int .i64 (lo1), .int .i64 (lo2), .int .i64 (hi0), .int .i64 (hi1), .int .i64 (hi2)] := hH.holds 11 (hL 11 (by decide))
    rw [ha]
    clear ha hH hL hLo
    simp only [RV.putAll, Act.put, List.setIfInBounds_toArray, List.set_cons_zero, List.set_cons_succ, Nat.zero_add, Nat.reduceAdd, y0, y1, y2, y3, y4, y5, y6, y7, y8, y9, y10, y11]
    clear y0 y1 y2 y3 y4 y5 y6 y7 y8 y9 y10 y11
    have E := Cells.set6 (Cells.step C3.out hb8) (.int .i64 (lo0)) (.int .i64 (lo1)) (.int .i64 (lo2)) (.int .i64 (hi0)) (.int .i64 (hi1)) (.int .i64 (hi2))
    have r0 := (E 0 _ rfl).1
    have r1 := (E 1 _ rfl).1
    have r2 := (E 2 _ rfl).1
    have r3 := (E 3 _ rfl).1
    have r4 := (E 4 _ rfl).1
    have r5 := (E 5 _ rfl).1
    go_wp2_with (fail)
    refine bodyPost_ret (v := .agg #[.int .i64 (lo0), .int .i64 (lo1), .int .i64 (lo2), .int .i64 (hi0), .int .i64 (hi1), .int .i64 (hi2)]) (by simp [results, Tryz.results38, go_sem, r0, r1, r2, r3, r4, r5]) rfl ⟨rfl, ?_⟩
    exact ((((((b_step hD.out hb8).setCell hbl _).setCell hbl _).setCell hbl _).setCell hbl _).setCell hbl _).setCell hbl _
end Go.Proofs.YtompnibhfdkkjaaGreat
