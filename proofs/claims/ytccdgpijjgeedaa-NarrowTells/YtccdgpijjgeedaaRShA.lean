/- The document's own functions of points. -/
import Derived.Test.YtccdgpijjgeedaaRSh
namespace Go.Proofs.Ytccdgpijjgeedaa
open Go.RowKit Go.Shelf
set_option linter.unusedVariables false

set_option maxHeartbeats 1000000 in
theorem minus_any (p q : Pt) (w : World) (hp : p.inB 1152921504606846976 = true) (hq : q.inB 1152921504606846976 = true) :
    Calls Try.prog 39 #[p.v, q.v] w fun e W => e = .returned (p.sub q).v ∧ Below w.heap.size w W := by
  obtain ⟨x, y, z⟩ := p
  obtain ⟨x', y', z'⟩ := q
  rw [Pt.inB_iff] at hp hq
  unfold Pt.v Pt.sub
  dsimp only at *
  go_enter Try.func39, Try.ntmps39
  go_wp2
  exact bodyPost_ret (v := .agg #[.int .i64 (x - x'), .int .i64 (y - y'), .int .i64 (z - z')]) (by simp [results, Try.results39, go_sem]) rfl ⟨rfl, (((Below.refl _ w).alloc (Nat.le_refl _) _).alloc (by simp) _).alloc (by simp; omega) _⟩
set_option maxHeartbeats 1000000 in
theorem rdot_any (p q : Pt) (w : World) (hp : p.inB 34359738368 = true) (hq : q.inB 131072 = true) :
    Calls Try.prog 30 #[p.v, q.v] w fun e W => e = .returned (.int .i64 (p.dot q)) ∧ Below w.heap.size w W := by
  obtain ⟨x, y, z⟩ := p
  obtain ⟨x', y', z'⟩ := q
  rw [Pt.inB_iff] at hp hq
  unfold Pt.v Pt.dot
  dsimp only at *
  have h1 := prod_in hp.1 hq.1 (by decide)
  have h2 := prod_in hp.2.1 hq.2.1 (by decide)
  have h3 := prod_in hp.2.2 hq.2.2 (by decide)
  clear hp hq
  go_enter Try.func30, Try.ntmps30
  go_wp2
  go_ret
  exact ⟨rfl, ((Below.refl _ w).alloc (Nat.le_refl _) _).alloc (by simp) _⟩
set_option maxHeartbeats 1000000 in
theorem rcross_any (p q : Pt) (w : World) (hp : p.inB 131072 = true) (hq : q.inB 131072 = true) :
    Calls Try.prog 53 #[p.v, q.v] w fun e W => e = .returned (p.cross q).v ∧ Below w.heap.size w W := by
  obtain ⟨x, y, z⟩ := p
  obtain ⟨x', y', z'⟩ := q
  rw [Pt.inB_iff] at hp hq
  unfold Pt.v Pt.cross
  dsimp only at *
  have h1 := prod_in hp.2.1 hq.2.2 (by decide)
  have h2 := prod_in hp.2.2 hq.2.1 (by decide)
  have h3 := prod_in hp.2.2 hq.1 (by decide)
  have h4 := prod_in hp.1 hq.2.2 (by decide)
  have h5 := prod_in hp.1 hq.2.1 (by decide)
  have h6 := prod_in hp.2.1 hq.1 (by decide)
  clear hp hq
  go_enter Try.func53, Try.ntmps53
  go_wp2
  refine bodyPost_ret (v := .agg #[.int .i64 (y * z' - z * y'), .int .i64 (z * x' - x * z'), .int .i64 (x * y' - y * x')]) ?_ rfl ⟨rfl, (((Below.refl _ w).alloc (Nat.le_refl _) _).alloc (by simp) _).alloc (by simp; omega) _⟩
  simp [results, Try.results53, go_sem]
set_option maxHeartbeats 4000000 in
set_option maxRecDepth 100000 in
theorem normal_any (a b c : Pt) (w0 : World) (ha : a.inB 65536 = true) (hb : b.inB 65536 = true) (hc : c.inB 65536 = true) :
    Calls Try.prog 83 #[a.v, b.v, c.v] w0 fun e W => e = .returned ((b.sub a).cross (c.sub a)).v ∧ Below w0.heap.size w0 W := by
  have L1 : Hid _ := fun w' => minus_any b a w' (inB_mono hb (by decide)) (inB_mono ha (by decide))
  have L2 : Hid _ := fun w' => minus_any c a w' (inB_mono hc (by decide)) (inB_mono ha (by decide))
  have L3 : Hid _ := fun w' => rcross_any (b.sub a) (c.sub a) w' (sub_in hb ha) (sub_in hc ha)
  clear ha hb hc
  obtain ⟨ax, ay, az⟩ := a
  obtain ⟨bx, by_, bz⟩ := b
  obtain ⟨cx, cy, cz⟩ := c
  unfold Pt.v Pt.sub Pt.cross at *
  dsimp only at *
  go_enter Try.func83, Try.ntmps83
  go_wp2_with (fail)
  obtain ⟨V, hV⟩ : ∃ V : World, V = ((((w0.alloc (.cells #[.int .i64 ax, .int .i64 ay, .int .i64 az] 26)).alloc (.cells #[.int .i64 bx, .int .i64 by_, .int .i64 bz] 26)).alloc (.cells #[.int .i64 cx, .int .i64 cy, .int .i64 cz] 26)).alloc (.cells #[.int .i64 0, .int .i64 0, .int .i64 0] 26)) := ⟨_, rfl⟩
  have hBV : Below w0.heap.size w0 V := by rw [hV]; exact (((((Below.refl _ w0).alloc (by simp; try omega) _).alloc (by simp; try omega) _).alloc (by simp; try omega) _).alloc (by simp; try omega) _)
  have V0_0 : V.cell? ⟨w0.heap.size, 0, none⟩ = some (.int .i64 ax) := by rw [hV]; simp [go_sem]
  have V0_1 : V.cell? ⟨w0.heap.size, 1, none⟩ = some (.int .i64 ay) := by rw [hV]; simp [go_sem]
  have V0_2 : V.cell? ⟨w0.heap.size, 2, none⟩ = some (.int .i64 az) := by rw [hV]; simp [go_sem]
  have V1_0 : V.cell? ⟨w0.heap.size + 1, 0, none⟩ = some (.int .i64 bx) := by rw [hV]; simp [go_sem]
  have V1_1 : V.cell? ⟨w0.heap.size + 1, 1, none⟩ = some (.int .i64 by_) := by rw [hV]; simp [go_sem]
  have V1_2 : V.cell? ⟨w0.heap.size + 1, 2, none⟩ = some (.int .i64 bz) := by rw [hV]; simp [go_sem]
  have V2_0 : V.cell? ⟨w0.heap.size + 1 + 1, 0, none⟩ = some (.int .i64 cx) := by rw [hV]; simp [go_sem]
  have V2_1 : V.cell? ⟨w0.heap.size + 1 + 1, 1, none⟩ = some (.int .i64 cy) := by rw [hV]; simp [go_sem]
  have V2_2 : V.cell? ⟨w0.heap.size + 1 + 1, 2, none⟩ = some (.int .i64 cz) := by rw [hV]; simp [go_sem]
  have V3_0 : V.cell? ⟨w0.heap.size + 1 + 1 + 1, 0, none⟩ = some (.int .i64 0) := by rw [hV]; simp [go_sem]
  have V3_1 : V.cell? ⟨w0.heap.size + 1 + 1 + 1, 1, none⟩ = some (.int .i64 0) := by rw [hV]; simp [go_sem]
  have V3_2 : V.cell? ⟨w0.heap.size + 1 + 1 + 1, 2, none⟩ = some (.int .i64 0) := by rw [hV]; simp [go_sem]
  have Vf3_0 : V.frozen? ⟨w0.heap.size + 1 + 1 + 1, 0, none⟩ = false := by rw [hV]; simp [go_sem]
  have Vf3_1 : V.frozen? ⟨w0.heap.size + 1 + 1 + 1, 1, none⟩ = false := by rw [hV]; simp [go_sem]
  have Vf3_2 : V.frozen? ⟨w0.heap.size + 1 + 1 + 1, 2, none⟩ = false := by rw [hV]; simp [go_sem]
  rw [← hV]
  clear hV
  refine RV.region_by (fun j v w => match j with | 0 => v = .agg #[.int .i64 (bx), .int .i64 (by_), .int .i64 (bz)] | 1 => v = .agg #[.int .i64 (ax), .int .i64 (ay), .int .i64 (az)] | 2 => v = .agg #[.int .i64 (bx - ax), .int .i64 (by_ - ay), .int .i64 (bz - az)] | 3 => v = .agg #[.int .i64 (cx), .int .i64 (cy), .int .i64 (cz)] | 4 => v = .agg #[.int .i64 (ax), .int .i64 (ay), .int .i64 (az)] | 5 => v = .agg #[.int .i64 (cx - ax), .int .i64 (cy - ay), .int .i64 (cz - az)] | 6 => v = .agg #[.int .i64 ((by_ - ay) * (cz - az) - (bz - az) * (cy - ay)), .int .i64 ((bz - az) * (cx - ax) - (bx - ax) * (cz - az)), .int .i64 ((bx - ax) * (cy - ay) - (by_ - ay) * (cx - ax))] | 7 => True | _ => True) (fun γ L w9 => (L 7 = false ∧ Below V.heap.size V w9) ∨ (L 7 = true ∧ ∃ w, Below V.heap.size V w ∧ w9 = (((w.setCell ⟨w0.heap.size + 1 + 1 + 1, 0, none⟩ (.int .i64 ((by_ - ay) * (cz - az) - (bz - az) * (cy - ay)))).setCell ⟨w0.heap.size + 1 + 1 + 1, 1, none⟩ (.int .i64 ((bz - az) * (cx - ax) - (bx - ax) * (cz - az)))).setCell ⟨w0.heap.size + 1 + 1 + 1, 2, none⟩ (.int .i64 ((bx - ax) * (cy - ay) - (by_ - ay) * (cx - ax)))))) (by kernel_rfl) (by kernel_rfl) (by kernel_rfl) (by kernel_rfl) ?_ ?_ ?_
  · exact Or.inl ⟨rfl, (Below.refl _ V).drew⟩
  · generalize hD : dstOf _ = D
    generalize hWA : waitsFor _ = WA
    generalize hZ : Act.mk _ _ = Z
    obtain ⟨R, hR⟩ : ∃ R : Nat → Value → World → Prop, R = (fun j v w => match j with | 0 => v = .agg #[.int .i64 (bx), .int .i64 (by_), .int .i64 (bz)] | 1 => v = .agg #[.int .i64 (ax), .int .i64 (ay), .int .i64 (az)] | 2 => v = .agg #[.int .i64 (bx - ax), .int .i64 (by_ - ay), .int .i64 (bz - az)] | 3 => v = .agg #[.int .i64 (cx), .int .i64 (cy), .int .i64 (cz)] | 4 => v = .agg #[.int .i64 (ax), .int .i64 (ay), .int .i64 (az)] | 5 => v = .agg #[.int .i64 (cx - ax), .int .i64 (cy - ay), .int .i64 (cz - az)] | 6 => v = .agg #[.int .i64 ((by_ - ay) * (cz - az) - (bz - az) * (cy - ay)), .int .i64 ((bz - az) * (cx - ax) - (bx - ax) * (cz - az)), .int .i64 ((bx - ax) * (cy - ay) - (by_ - ay) * (cx - ax))] | 7 => True | _ => True) := ⟨_, rfl⟩
    rw [← hR]
    have d0 : D 0 = some 7 := by rw [← hD]; rfl
    have d1 : D 1 = some 8 := by rw [← hD]; rfl
    have d2 : D 2 = some 9 := by rw [← hD]; rfl
    have d3 : D 3 = some 10 := by rw [← hD]; rfl
    have d4 : D 4 = some 11 := by rw [← hD]; rfl
    have d5 : D 5 = some 12 := by rw [← hD]; rfl
    have d6 : D 6 = some 13 := by rw [← hD]; rfl
    have r0 : ∀ v w, R 0 v w = (v = .agg #[.int .i64 (bx), .int .i64 (by_), .int .i64 (bz)]) := fun v w => by rw [hR]; rfl
    have r1 : ∀ v w, R 1 v w = (v = .agg #[.int .i64 (ax), .int .i64 (ay), .int .i64 (az)]) := fun v w => by rw [hR]; rfl
    have r2 : ∀ v w, R 2 v w = (v = .agg #[.int .i64 (bx - ax), .int .i64 (by_ - ay), .int .i64 (bz - az)]) := fun v w => by rw [hR]; rfl
    have r3 : ∀ v w, R 3 v w = (v = .agg #[.int .i64 (cx), .int .i64 (cy), .int .i64 (cz)]) := fun v w => by rw [hR]; rfl
    have r4 : ∀ v w, R 4 v w = (v = .agg #[.int .i64 (ax), .int .i64 (ay), .int .i64 (az)]) := fun v w => by rw [hR]; rfl
    have r5 : ∀ v w, R 5 v w = (v = .agg #[.int .i64 (cx - ax), .int .i64 (cy - ay), .int .i64 (cz - az)]) := fun v w => by rw [hR]; rfl
    have r6 : ∀ v w, R 6 v w = (v = .agg #[.int .i64 ((by_ - ay) * (cz - az) - (bz - az) * (cy - ay)), .int .i64 ((bz - az) * (cx - ax) - (bx - ax) * (cz - az)), .int .i64 ((bx - ax) * (cy - ay) - (by_ - ay) * (cx - ax))]) := fun v w => by rw [hR]; rfl
    have r7 : ∀ v w, R 7 v w = (True) := fun v w => by rw [hR]; rfl
    have E3 : ∀ (γ : Nat → Value) (L : Nat → Bool) (a : Act) (w : World), RV.Held D WA R (fun γ L w9 => (L 7 = false ∧ Below V.heap.size V w9) ∨ (L 7 = true ∧ ∃ w, Below V.heap.size V w ∧ w9 = (((w.setCell ⟨w0.heap.size + 1 + 1 + 1, 0, none⟩ (.int .i64 ((by_ - ay) * (cz - az) - (bz - az) * (cy - ay)))).setCell ⟨w0.heap.size + 1 + 1 + 1, 1, none⟩ (.int .i64 ((bz - az) * (cx - ax) - (bx - ax) * (cz - az)))).setCell ⟨w0.heap.size + 1 + 1 + 1, 2, none⟩ (.int .i64 ((bx - ax) * (cy - ay) - (by_ - ay) * (cx - ax)))))) Z γ L a w → a.tmps[3]? = some (.pointer (some ⟨w0.heap.size, 0, none⟩)) := fun γ L a w hH => (hH.rest 3 (by rw [← hD]; exact RV.dst_free (by kernel_rfl))).trans (by rw [← hZ]; rfl)
    have E4 : ∀ (γ : Nat → Value) (L : Nat → Bool) (a : Act) (w : World), RV.Held D WA R (fun γ L w9 => (L 7 = false ∧ Below V.heap.size V w9) ∨ (L 7 = true ∧ ∃ w, Below V.heap.size V w ∧ w9 = (((w.setCell ⟨w0.heap.size + 1 + 1 + 1, 0, none⟩ (.int .i64 ((by_ - ay) * (cz - az) - (bz - az) * (cy - ay)))).setCell ⟨w0.heap.size + 1 + 1 + 1, 1, none⟩ (.int .i64 ((bz - az) * (cx - ax) - (bx - ax) * (cz - az)))).setCell ⟨w0.heap.size + 1 + 1 + 1, 2, none⟩ (.int .i64 ((bx - ax) * (cy - ay) - (by_ - ay) * (cx - ax)))))) Z γ L a w → a.tmps[4]? = some (.pointer (some ⟨w0.heap.size + 1, 0, none⟩)) := fun γ L a w hH => (hH.rest 4 (by rw [← hD]; exact RV.dst_free (by kernel_rfl))).trans (by rw [← hZ]; rfl)
    have E5 : ∀ (γ : Nat → Value) (L : Nat → Bool) (a : Act) (w : World), RV.Held D WA R (fun γ L w9 => (L 7 = false ∧ Below V.heap.size V w9) ∨ (L 7 = true ∧ ∃ w, Below V.heap.size V w ∧ w9 = (((w.setCell ⟨w0.heap.size + 1 + 1 + 1, 0, none⟩ (.int .i64 ((by_ - ay) * (cz - az) - (bz - az) * (cy - ay)))).setCell ⟨w0.heap.size + 1 + 1 + 1, 1, none⟩ (.int .i64 ((bz - az) * (cx - ax) - (bx - ax) * (cz - az)))).setCell ⟨w0.heap.size + 1 + 1 + 1, 2, none⟩ (.int .i64 ((bx - ax) * (cy - ay) - (by_ - ay) * (cx - ax)))))) Z γ L a w → a.tmps[5]? = some (.pointer (some ⟨w0.heap.size + 1 + 1, 0, none⟩)) := fun γ L a w hH => (hH.rest 5 (by rw [← hD]; exact RV.dst_free (by kernel_rfl))).trans (by rw [← hZ]; rfl)
    have E6 : ∀ (γ : Nat → Value) (L : Nat → Bool) (a : Act) (w : World), RV.Held D WA R (fun γ L w9 => (L 7 = false ∧ Below V.heap.size V w9) ∨ (L 7 = true ∧ ∃ w, Below V.heap.size V w ∧ w9 = (((w.setCell ⟨w0.heap.size + 1 + 1 + 1, 0, none⟩ (.int .i64 ((by_ - ay) * (cz - az) - (bz - az) * (cy - ay)))).setCell ⟨w0.heap.size + 1 + 1 + 1, 1, none⟩ (.int .i64 ((bz - az) * (cx - ax) - (bx - ax) * (cz - az)))).setCell ⟨w0.heap.size + 1 + 1 + 1, 2, none⟩ (.int .i64 ((bx - ax) * (cy - ay) - (by_ - ay) * (cx - ax)))))) Z γ L a w → a.tmps[6]? = some (.pointer (some ⟨w0.heap.size + 1 + 1 + 1, 0, none⟩)) := fun γ L a w hH => (hH.rest 6 (by rw [← hD]; exact RV.dst_free (by kernel_rfl))).trans (by rw [← hZ]; rfl)
    have K : ∀ j v w w', R j v w → R j v w' := by rw [hR]; intro j v w w' h; exact h
    have A_7_0 : WA 7 0 := by rw [← hWA]; exact ⟨_, rfl, ⟨0, .phase⟩, by simp, rfl, rfl⟩
    have A_7_1 : WA 7 1 := by rw [← hWA]; exact ⟨_, rfl, ⟨1, .phase⟩, by simp, rfl, rfl⟩
    have A_7_2 : WA 7 2 := by rw [← hWA]; exact ⟨_, rfl, ⟨2, .phase⟩, by simp, rfl, rfl⟩
    have A_7_3 : WA 7 3 := by rw [← hWA]; exact ⟨_, rfl, ⟨3, .phase⟩, by simp, rfl, rfl⟩
    have A_7_4 : WA 7 4 := by rw [← hWA]; exact ⟨_, rfl, ⟨4, .phase⟩, by simp, rfl, rfl⟩
    have A_7_5 : WA 7 5 := by rw [← hWA]; exact ⟨_, rfl, ⟨5, .phase⟩, by simp, rfl, rfl⟩
    have A_7_6 : WA 7 6 := by rw [← hWA]; exact ⟨_, rfl, ⟨6, .phase⟩, by simp, rfl, rfl⟩
    clear hD hWA hZ hR
    refine RV.AllDo.cons 0 (RV.does_pure (fun γ v L w hl h => by rw [RV.more_ne (L := L) (i := 0) (j := 7) (by decide)]; exact h) (fun γ L a w hH hl hA => by have e0 := E4 γ L a w hH; have hB9 := early9 hH.glob (RV.not_yet hH A_7_0 hl); have z0 := c_after hB9 V1_0; have z1 := c_after hB9 V1_1; have z2 := c_after hB9 V1_2; exact ⟨.agg #[.int .i64 (bx), .int .i64 (by_), .int .i64 (bz)], by simp [execOp, go_sem, e0, z0, z1, z2], (r0 _ _).mpr rfl⟩)) ?_
    refine RV.AllDo.cons 1 (RV.does_pure (fun γ v L w hl h => by rw [RV.more_ne (L := L) (i := 1) (j := 7) (by decide)]; exact h) (fun γ L a w hH hl hA => by have e0 := E3 γ L a w hH; have hB9 := early9 hH.glob (RV.not_yet hH A_7_1 hl); have z0 := c_after hB9 V0_0; have z1 := c_after hB9 V0_1; have z2 := c_after hB9 V0_2; exact ⟨.agg #[.int .i64 (ax), .int .i64 (ay), .int .i64 (az)], by simp [execOp, go_sem, e0, z0, z1, z2], (r1 _ _).mpr rfl⟩)) ?_
    refine RV.AllDo.cons 2 (RV.does_call (fun γ L a w hH hl hA => by have l0 : L 0 = true := hA ⟨0, .data⟩ (by simp) rfl; have e0 := hH.slot 0 7 d0 l0; have g0 := hH.holds 0 l0; rw [r0] at g0; rw [g0] at e0; have l1 : L 1 = true := hA ⟨1, .data⟩ (by simp) rfl; have e1 := hH.slot 1 8 d1 l1; have g1 := hH.holds 1 l1; rw [r1] at g1; rw [g1] at e1; have hB9 := early9 hH.glob (RV.not_yet hH A_7_2 hl); exact ⟨39, #[.agg #[.int .i64 (bx), .int .i64 (by_), .int .i64 (bz)], .agg #[.int .i64 (ax), .int .i64 (ay), .int .i64 (az)]], by simp [go_sem, e0, e1], Calls.mono (L1.out w) (by rintro e w2 ⟨rfl, hb⟩; exact ⟨_, rfl, (r2 _ _).mpr rfl, fun j v _ h => K j v _ _ h, Or.inl ⟨by rw [RV.more_ne (L := L) (i := 2) (j := 7) (by decide)]; exact RV.not_yet hH A_7_2 hl, hB9.trans (hb.mono hB9.size)⟩⟩)⟩)) ?_
    refine RV.AllDo.cons 3 (RV.does_pure (fun γ v L w hl h => by rw [RV.more_ne (L := L) (i := 3) (j := 7) (by decide)]; exact h) (fun γ L a w hH hl hA => by have e0 := E5 γ L a w hH; have hB9 := early9 hH.glob (RV.not_yet hH A_7_3 hl); have z0 := c_after hB9 V2_0; have z1 := c_after hB9 V2_1; have z2 := c_after hB9 V2_2; exact ⟨.agg #[.int .i64 (cx), .int .i64 (cy), .int .i64 (cz)], by simp [execOp, go_sem, e0, z0, z1, z2], (r3 _ _).mpr rfl⟩)) ?_
    refine RV.AllDo.cons 4 (RV.does_pure (fun γ v L w hl h => by rw [RV.more_ne (L := L) (i := 4) (j := 7) (by decide)]; exact h) (fun γ L a w hH hl hA => by have e0 := E3 γ L a w hH; have hB9 := early9 hH.glob (RV.not_yet hH A_7_4 hl); have z0 := c_after hB9 V0_0; have z1 := c_after hB9 V0_1; have z2 := c_after hB9 V0_2; exact ⟨.agg #[.int .i64 (ax), .int .i64 (ay), .int .i64 (az)], by simp [execOp, go_sem, e0, z0, z1, z2], (r4 _ _).mpr rfl⟩)) ?_
    refine RV.AllDo.cons 5 (RV.does_call (fun γ L a w hH hl hA => by have l0 : L 3 = true := hA ⟨3, .data⟩ (by simp) rfl; have e0 := hH.slot 3 10 d3 l0; have g0 := hH.holds 3 l0; rw [r3] at g0; rw [g0] at e0; have l1 : L 4 = true := hA ⟨4, .data⟩ (by simp) rfl; have e1 := hH.slot 4 11 d4 l1; have g1 := hH.holds 4 l1; rw [r4] at g1; rw [g1] at e1; have hB9 := early9 hH.glob (RV.not_yet hH A_7_5 hl); exact ⟨39, #[.agg #[.int .i64 (cx), .int .i64 (cy), .int .i64 (cz)], .agg #[.int .i64 (ax), .int .i64 (ay), .int .i64 (az)]], by simp [go_sem, e0, e1], Calls.mono (L2.out w) (by rintro e w2 ⟨rfl, hb⟩; exact ⟨_, rfl, (r5 _ _).mpr rfl, fun j v _ h => K j v _ _ h, Or.inl ⟨by rw [RV.more_ne (L := L) (i := 5) (j := 7) (by decide)]; exact RV.not_yet hH A_7_5 hl, hB9.trans (hb.mono hB9.size)⟩⟩)⟩)) ?_
    refine RV.AllDo.cons 6 (RV.does_call (fun γ L a w hH hl hA => by have l0 : L 2 = true := hA ⟨2, .data⟩ (by simp) rfl; have e0 := hH.slot 2 9 d2 l0; have g0 := hH.holds 2 l0; rw [r2] at g0; rw [g0] at e0; have l1 : L 5 = true := hA ⟨5, .data⟩ (by simp) rfl; have e1 := hH.slot 5 12 d5 l1; have g1 := hH.holds 5 l1; rw [r5] at g1; rw [g1] at e1; have hB9 := early9 hH.glob (RV.not_yet hH A_7_6 hl); exact ⟨53, #[.agg #[.int .i64 (bx - ax), .int .i64 (by_ - ay), .int .i64 (bz - az)], .agg #[.int .i64 (cx - ax), .int .i64 (cy - ay), .int .i64 (cz - az)]], by simp [go_sem, e0, e1], Calls.mono (L3.out w) (by rintro e w2 ⟨rfl, hb⟩; exact ⟨_, rfl, (r6 _ _).mpr rfl, fun j v _ h => K j v _ _ h, Or.inl ⟨by rw [RV.more_ne (L := L) (i := 6) (j := 7) (by decide)]; exact RV.not_yet hH A_7_6 hl, hB9.trans (hb.mono hB9.size)⟩⟩)⟩)) ?_
    refine RV.AllDo.cons 7 (RV.does_store (fun γ L a w hH hl hA => by have e0 := E6 γ L a w hH; have l1 : L 6 = true := hA ⟨6, .data⟩ (by simp) rfl; have e1 := hH.slot 6 13 d6 l1; have g1 := hH.holds 6 l1; rw [r6] at g1; rw [g1] at e1; have hB9 := early9 hH.glob hl; have z0 := c_after hB9 V3_0; have zf0 := f_after hB9 V3_0 Vf3_0; have z1 := c_after hB9 V3_1; have zf1 := f_after hB9 V3_1 Vf3_1; have z2 := c_after hB9 V3_2; have zf2 := f_after hB9 V3_2 Vf3_2; exact ⟨(((w.setCell ⟨w0.heap.size + 1 + 1 + 1, 0, none⟩ (.int .i64 ((by_ - ay) * (cz - az) - (bz - az) * (cy - ay)))).setCell ⟨w0.heap.size + 1 + 1 + 1, 1, none⟩ (.int .i64 ((bz - az) * (cx - ax) - (bx - ax) * (cz - az)))).setCell ⟨w0.heap.size + 1 + 1 + 1, 2, none⟩ (.int .i64 ((bx - ax) * (cy - ay) - (by_ - ay) * (cx - ax)))), by simp [execOp, go_sem, e0, e1, z0, zf0, z1, zf1, z2, zf2], (r7 _ _).mpr trivial, fun j v _ h => K j v _ _ h, Or.inr ⟨RV.more_self, w, hB9, rfl⟩⟩)) ?_
    exact RV.AllDo.nil
  · intro γ a5 w5 L9 hL hLo hH
    have ha := RV.held_act hH hL (by kernel_rfl) (by kernel_rfl)
    obtain ⟨w8, hb8, rfl⟩ := late9 hH.glob (hL 7 (by decide))
    have y0 : γ 0 = .agg #[.int .i64 (bx), .int .i64 (by_), .int .i64 (bz)] := hH.holds 0 (hL 0 (by decide))
    have y1 : γ 1 = .agg #[.int .i64 (ax), .int .i64 (ay), .int .i64 (az)] := hH.holds 1 (hL 1 (by decide))
    have y2 : γ 2 = .agg #[.int .i64 (bx - ax), .int .i64 (by_ - ay), .int .i64 (bz - az)] := hH.holds 2 (hL 2 (by decide))
    have y3 : γ 3 = .agg #[.int .i64 (cx), .int .i64 (cy), .int .i64 (cz)] := hH.holds 3 (hL 3 (by decide))
    have y4 : γ 4 = .agg #[.int .i64 (ax), .int .i64 (ay), .int .i64 (az)] := hH.holds 4 (hL 4 (by decide))
    have y5 : γ 5 = .agg #[.int .i64 (cx - ax), .int .i64 (cy - ay), .int .i64 (cz - az)] := hH.holds 5 (hL 5 (by decide))
    have y6 : γ 6 = .agg #[.int .i64 ((by_ - ay) * (cz - az) - (bz - az) * (cy - ay)), .int .i64 ((bz - az) * (cx - ax) - (bx - ax) * (cz - az)), .int .i64 ((bx - ax) * (cy - ay) - (by_ - ay) * (cx - ax))] := hH.holds 6 (hL 6 (by decide))
    rw [ha]
    clear ha hH hL hLo
    simp only [RV.putAll, Act.put, List.setIfInBounds_toArray, List.set_cons_zero, List.set_cons_succ, Nat.zero_add, Nat.reduceAdd, y0, y1, y2, y3, y4, y5, y6]
    clear y0 y1 y2 y3 y4 y5 y6
    have q0 := c_after hb8 V3_0
    have q1 := c_after hb8 V3_1
    have q2 := c_after hb8 V3_2
    go_wp2
    refine bodyPost_ret (v := .agg #[.int .i64 ((by_ - ay) * (cz - az) - (bz - az) * (cy - ay)), .int .i64 ((bz - az) * (cx - ax) - (bx - ax) * (cz - az)), .int .i64 ((bx - ax) * (cy - ay) - (by_ - ay) * (cx - ax))]) (by simp [results, Try.results83, go_sem, q0, q1, q2]) rfl ⟨rfl, ?_⟩
    exact ((((hBV.trans (hb8.mono hBV.size)).setCell (by simp; omega) _).setCell (by simp; omega) _).setCell (by simp; omega) _)
/-- All three parts from lo to hi. -/
def inP (p : Pt) (lo hi : Int) : Bool := inR p.x lo hi && (inR p.y lo hi && inR p.z lo hi)
theorem inP_sym (p : Pt) (m : Int) : inP p (-m) m = p.inB m := by rw [Bool.eq_iff_iff, Pt.inB_iff]; simp [inP, inR]
set_option maxHeartbeats 1000000 in
theorem rwithin_any (p : Pt) (lo hi : Int) (w0 : World) :
    Calls Try.prog 98 #[p.v, .int .i64 lo, .int .i64 hi] w0 fun e W => e = .returned (.bool (inP p lo hi)) ∧ Below w0.heap.size w0 W := by
  obtain ⟨x, y, z⟩ := p
  unfold Pt.v inP
  dsimp only
  cases hx : inR x lo hi with
  | false =>
    go_enter Try.func98, Try.ntmps98
    go_wp2_with (fail)
    refine Calls.mono (rin_is x lo hi _ false hx) ?_
    rintro e w' ⟨rfl, rfl⟩
    go_wp2_with (fail)
    go_ret
    exact ⟨rfl, n_after w0 _⟩
  | true =>
    cases hy : inR y lo hi with
    | false =>
      go_enter Try.func98, Try.ntmps98
      go_wp2_with (fail)
      refine Calls.mono (rin_is x lo hi _ true hx) ?_
      rintro e w' ⟨rfl, rfl⟩
      go_wp2_with (fail)
      refine Calls.mono (rin_is y lo hi _ false hy) ?_
      rintro e w' ⟨rfl, rfl⟩
      go_wp2_with (fail)
      go_ret
      exact ⟨rfl, n_after w0 _⟩
    | true =>
      cases hz : inR z lo hi with
      | false =>
        go_enter Try.func98, Try.ntmps98
        go_wp2_with (fail)
        refine Calls.mono (rin_is x lo hi _ true hx) ?_
        rintro e w' ⟨rfl, rfl⟩
        go_wp2_with (fail)
        refine Calls.mono (rin_is y lo hi _ true hy) ?_
        rintro e w' ⟨rfl, rfl⟩
        go_wp2_with (fail)
        refine Calls.mono (rin_is z lo hi _ false hz) ?_
        rintro e w' ⟨rfl, rfl⟩
        go_wp2_with (fail)
        go_ret
        exact ⟨rfl, n_after w0 _⟩
      | true =>
        go_enter Try.func98, Try.ntmps98
        go_wp2_with (fail)
        refine Calls.mono (rin_is x lo hi _ true hx) ?_
        rintro e w' ⟨rfl, rfl⟩
        go_wp2_with (fail)
        refine Calls.mono (rin_is y lo hi _ true hy) ?_
        rintro e w' ⟨rfl, rfl⟩
        go_wp2_with (fail)
        refine Calls.mono (rin_is z lo hi _ true hz) ?_
        rintro e w' ⟨rfl, rfl⟩
        go_wp2_with (fail)
        go_ret
        exact ⟨rfl, n_after w0 _⟩
end Go.Proofs.Ytccdgpijjgeedaa
