/- Package shape's small functions of points. -/
import Derived.Test.YtccdgpijjgeedaaKSMath
import Derived.OneCell
namespace Go.Proofs.Ytccdgpijjgeedaa
open Go.RowKit Go.Shelf
set_option linter.unusedVariables false

theorem between_any (n a b : Int) (w : World) :
    Calls Try.prog 105 #[.int .i64 n, .int .i64 a, .int .i64 b] w fun e w' => e = .returned (.bool (decide (a ≤ n ∧ n ≤ b))) ∧ w' = w := by
  by_cases h1 : a ≤ n
  · go_enter Try.func105, Try.ntmps105
    go_wp2
    go_ret
    exact ⟨by simp [h1], rfl⟩
  · go_enter Try.func105, Try.ntmps105
    go_wp2
    go_ret
    exact ⟨by simp; omega, rfl⟩

theorem prod_in {x y A B : Int} (hx : -A ≤ x ∧ x ≤ A) (hy : -B ≤ y ∧ y ≤ B) (h : A * B ≤ 1152921504606846976) : -1152921504606846976 ≤ x * y ∧ x * y ≤ 1152921504606846976 := by
  have := mul_in hx hy
  omega
set_option maxHeartbeats 1000000 in
theorem divided_any (p : Pt) (n : Int) (w : World) (hp : p.inB 1152921504606846976 = true) (hn : 0 < n) (hn' : n ≤ 1152921504606846976):
    Calls Try.prog 97 #[p.v, .int .i64 n] w fun e W => e = .returned (p.by n).v ∧ Below w.heap.size w W := by
  obtain ⟨x, y, z⟩ := p
  rw [Pt.inB_iff] at hp
  unfold Pt.v Pt.by
  dsimp only at *
  go_enter Try.func97, Try.ntmps97
  go_wp2
  go_region
  go_wp2
  exact bodyPost_ret (v := .agg #[.int .i64 (x.tdiv n), .int .i64 (y.tdiv n), .int .i64 (z.tdiv n)]) (by simp [results, Try.results97, go_sem]) rfl ⟨rfl, (((Below.refl _ w).alloc (Nat.le_refl _) _).alloc (by simp) _).drew⟩
set_option maxHeartbeats 1000000 in
theorem within_any (p : Pt) (m : Int) (w : World) (hm : 0 ≤ m) (hm' : m ≤ 1152921504606846976) :
    Calls Try.prog 95 #[p.v, .int .i64 m] w fun e W => e = .returned (.bool (p.inB m)) ∧ Below w.heap.size w W := by
  obtain ⟨x, y, z⟩ := p
  have HE : Hid (∀ b : Bool, (b = true ↔ (-m ≤ x ∧ x ≤ m) ∧ (-m ≤ y ∧ y ≤ m) ∧ (-m ≤ z ∧ z ≤ m)) → Pt.inB ⟨x, y, z⟩ m = b) := fun b h => by
    rw [Bool.eq_iff_iff, h, Pt.inB_iff]
  unfold Pt.v
  go_enter Try.func95, Try.ntmps95
  go_wp2
  all_goals
    go_ret
    exact ⟨congrArg (fun b => Ending.returned (.bool b)) (HE.out _ ⟨fun h => by first | (cases h; done) | omega | (have h' := of_decide_eq_true h; omega), fun h => by first | rfl | (exfalso; omega) | exact decide_eq_true (by omega)⟩).symm, n_after w _⟩
theorem gcd_step {x y : Int} (h : y ≠ 0) : Nat.gcd y.natAbs (x.tmod y).natAbs = Nat.gcd x.natAbs y.natAbs := by
  rw [Int.natAbs_tmod, Nat.gcd_comm x.natAbs, Nat.gcd_rec y.natAbs x.natAbs, Nat.gcd_comm]
theorem tmod_lt {x y : Int} (h : y ≠ 0) : (x.tmod y).natAbs < y.natAbs := by
  rw [Int.natAbs_tmod]; exact Nat.mod_lt _ (by omega)
set_option maxHeartbeats 1000000 in
theorem gcd_any (a b : Int) (w : World) (ha : -1152921504606846976 ≤ a ∧ a ≤ 1152921504606846976) (hb : -1152921504606846976 ≤ b ∧ b ≤ 1152921504606846976) :
    Calls Try.prog 106 #[.int .i64 a, .int .i64 b] w fun e W => e = .returned (.int .i64 (Nat.gcd a.natAbs b.natAbs : Nat)) ∧ Below w.heap.size w W := by
  go_enter Try.func106, Try.ntmps106
  go_wp2
  go_loopw [0, 1] (fun s t wr => ∃ x y : Int, s = .int .i64 x ∧ t = .int .i64 y ∧ (-1152921504606846976 ≤ x ∧ x ≤ 1152921504606846976) ∧ (-1152921504606846976 ≤ y ∧ y ≤ 1152921504606846976) ∧ Hid (Nat.gcd x.natAbs y.natAbs = Nat.gcd a.natAbs b.natAbs) ∧ Hid (Below w.heap.size w wr)) (fun _ t _ => (intOf t).natAbs)
  case atStart => exact ⟨a, b, rfl, rfl, ha, hb, rfl, Below.refl _ _⟩
  case round =>
    obtain ⟨x, y, rfl, rfl, hx, hy, HG, HB⟩ := hrel
    by_cases h0 : y = 0
    · subst h0
      have HE : Hid (((Nat.gcd a.natAbs b.natAbs : Nat) : Int) = if x < -x then -x else x) := by
        show _ = _
        rw [← HG.out]
        simp only [Int.natAbs_zero, Nat.gcd_zero_right]
        split <;> omega
      clear HG
      rcases Int.lt_trichotomy x 0 with h | h | h
      · go_wp2
        go_ret
        refine ⟨?_, HB.out⟩
        rw [HE.out]
        exact congrArg (fun n => Ending.returned (.int .i64 n)) (by rw [if_pos (by omega)])
      · subst h
        go_wp2
        go_ret
        exact ⟨by rw [HE.out]; rfl, HB.out⟩
      · go_wp2
        go_ret
        refine ⟨?_, HB.out⟩
        rw [HE.out]
        exact congrArg (fun n => Ending.returned (.int .i64 n)) (by rw [if_neg (by omega)])
    · have HS : Hid _ := gcd_step (x := x) h0
      have hlt := tmod_lt (x := x) h0
      go_wp2
      go_region
      go_wp2
      go_roundw
      case rel => exact ⟨y, x.tmod y, rfl, rfl, hy, by omega, HS.out.trans HG.out, HB.out.drew⟩
      case measure => exact hlt
end Go.Proofs.Ytccdgpijjgeedaa
/- Package shape's lowest and Short. -/
namespace Go.Proofs.Ytccdgpijjgeedaa
open Go.RowKit Go.Shelf
set_option linter.unusedVariables false

theorem gcd_le {a b B : Nat} (ha : a ≤ B) (hb : b ≤ B) : Nat.gcd a b ≤ B := by
  by_cases h : a = 0
  · subst h; rw [Nat.gcd_zero_left]; exact hb
  · exact Nat.le_trans (Nat.le_of_dvd (by omega) (Nat.gcd_dvd_left a b)) ha
set_option maxHeartbeats 1000000 in
set_option maxRecDepth 100000 in
theorem lowest_any (p : Pt) (w0 : World) (hp : p.inB 4398046511104 = true) :
    Calls Try.prog 96 #[p.v] w0 fun e W => e = .returned p.low.v ∧ Below w0.heap.size w0 W := by
  have hq := hp
  rw [Pt.inB_iff] at hq
  have b1 : Nat.gcd p.x.natAbs p.y.natAbs ≤ 4398046511104 := gcd_le (by omega) (by omega)
  have b2 : p.g ≤ 4398046511104 := gcd_le b1 (by omega)
  have G1 : Hid _ := fun w' => gcd_any p.x p.y w' (by omega) (by omega)
  have G2 : Hid (∀ w', Calls Try.prog 106 #[.int .i64 (Nat.gcd p.x.natAbs p.y.natAbs : Nat), .int .i64 p.z] w' fun e W => e = .returned (.int .i64 (p.g : Nat)) ∧ Below w'.heap.size w' W) := fun w' => gcd_any (Nat.gcd p.x.natAbs p.y.natAbs : Nat) p.z w' (by omega) (by omega)
  have HD : Hid (p.g ≠ 0 → ∀ w', Calls Try.prog 97 #[p.v, .int .i64 (p.g : Nat)] w' fun e W => e = .returned (p.by p.g).v ∧ Below w'.heap.size w' W) := fun h w' => divided_any p p.g w' (inB_mono hp (by decide)) (by omega) (by omega)
  have HL : Hid (p.low = if p.g = 0 then p else p.by p.g) := rfl
  generalize p.low = r at *
  generalize Nat.gcd p.x.natAbs p.y.natAbs = m1 at *
  generalize p.g = m2 at *
  obtain ⟨x, y, z⟩ := p
  clear hp hq
  unfold Pt.v at *
  dsimp only at *
  go_enter Try.func96, Try.ntmps96
  go_wp2_with (fail)
  obtain ⟨V, hV⟩ : ∃ V : World, V = ((w0.alloc (.cells #[.int .i64 x, .int .i64 y, .int .i64 z] 26)).alloc (.cells #[.int .i64 0, .int .i64 0, .int .i64 0] 26)) := ⟨_, rfl⟩
  have hBV : Below w0.heap.size w0 V := by rw [hV]; exact (((Below.refl _ w0).alloc (by simp; try omega) _).alloc (by simp; try omega) _)
  have V0_0 : V.cell? ⟨w0.heap.size, 0, none⟩ = some (.int .i64 x) := by rw [hV]; simp [go_sem]
  have V0_1 : V.cell? ⟨w0.heap.size, 1, none⟩ = some (.int .i64 y) := by rw [hV]; simp [go_sem]
  have V0_2 : V.cell? ⟨w0.heap.size, 2, none⟩ = some (.int .i64 z) := by rw [hV]; simp [go_sem]
  have V1_0 : V.cell? ⟨w0.heap.size + 1, 0, none⟩ = some (.int .i64 0) := by rw [hV]; simp [go_sem]
  have V1_1 : V.cell? ⟨w0.heap.size + 1, 1, none⟩ = some (.int .i64 0) := by rw [hV]; simp [go_sem]
  have V1_2 : V.cell? ⟨w0.heap.size + 1, 2, none⟩ = some (.int .i64 0) := by rw [hV]; simp [go_sem]
  have Vf1_0 : V.frozen? ⟨w0.heap.size + 1, 0, none⟩ = false := by rw [hV]; simp [go_sem]
  have Vf1_1 : V.frozen? ⟨w0.heap.size + 1, 1, none⟩ = false := by rw [hV]; simp [go_sem]
  have Vf1_2 : V.frozen? ⟨w0.heap.size + 1, 2, none⟩ = false := by rw [hV]; simp [go_sem]
  rw [← hV]
  clear hV
  refine RV.region_by (fun j v w => match j with | 0 => v = .pointer (some ⟨w0.heap.size, 0, none⟩) | 1 => v = .int .i64 (x) | 2 => v = .pointer (some ⟨w0.heap.size, 1, none⟩) | 3 => v = .int .i64 (y) | 4 => v = .int .i64 ((m1 : Nat)) | 5 => v = .pointer (some ⟨w0.heap.size, 2, none⟩) | 6 => v = .int .i64 (z) | 7 => v = .int .i64 ((m2 : Nat)) | 8 => v = .int .i64 ((m2 : Nat)) | _ => True) (fun γ L w9 => Below V.heap.size V w9) (by kernel_rfl) (by kernel_rfl) (by kernel_rfl) (by kernel_rfl) ?_ ?_ ?_
  · exact (Below.refl _ V).drew
  · generalize hD : dstOf _ = D
    generalize hWA : waitsFor _ = WA
    generalize hZ : Act.mk _ _ = Z
    obtain ⟨R, hR⟩ : ∃ R : Nat → Value → World → Prop, R = (fun j v w => match j with | 0 => v = .pointer (some ⟨w0.heap.size, 0, none⟩) | 1 => v = .int .i64 (x) | 2 => v = .pointer (some ⟨w0.heap.size, 1, none⟩) | 3 => v = .int .i64 (y) | 4 => v = .int .i64 ((m1 : Nat)) | 5 => v = .pointer (some ⟨w0.heap.size, 2, none⟩) | 6 => v = .int .i64 (z) | 7 => v = .int .i64 ((m2 : Nat)) | 8 => v = .int .i64 ((m2 : Nat)) | _ => True) := ⟨_, rfl⟩
    rw [← hR]
    have d0 : D 0 = some 4 := by rw [← hD]; rfl
    have d1 : D 1 = some 5 := by rw [← hD]; rfl
    have d2 : D 2 = some 6 := by rw [← hD]; rfl
    have d3 : D 3 = some 7 := by rw [← hD]; rfl
    have d4 : D 4 = some 8 := by rw [← hD]; rfl
    have d5 : D 5 = some 9 := by rw [← hD]; rfl
    have d6 : D 6 = some 10 := by rw [← hD]; rfl
    have d7 : D 7 = some 11 := by rw [← hD]; rfl
    have d8 : D 8 = some 3 := by rw [← hD]; rfl
    have r0 : ∀ v w, R 0 v w = (v = .pointer (some ⟨w0.heap.size, 0, none⟩)) := fun v w => by rw [hR]; rfl
    have r1 : ∀ v w, R 1 v w = (v = .int .i64 (x)) := fun v w => by rw [hR]; rfl
    have r2 : ∀ v w, R 2 v w = (v = .pointer (some ⟨w0.heap.size, 1, none⟩)) := fun v w => by rw [hR]; rfl
    have r3 : ∀ v w, R 3 v w = (v = .int .i64 (y)) := fun v w => by rw [hR]; rfl
    have r4 : ∀ v w, R 4 v w = (v = .int .i64 ((m1 : Nat))) := fun v w => by rw [hR]; rfl
    have r5 : ∀ v w, R 5 v w = (v = .pointer (some ⟨w0.heap.size, 2, none⟩)) := fun v w => by rw [hR]; rfl
    have r6 : ∀ v w, R 6 v w = (v = .int .i64 (z)) := fun v w => by rw [hR]; rfl
    have r7 : ∀ v w, R 7 v w = (v = .int .i64 ((m2 : Nat))) := fun v w => by rw [hR]; rfl
    have r8 : ∀ v w, R 8 v w = (v = .int .i64 ((m2 : Nat))) := fun v w => by rw [hR]; rfl
    have E1 : ∀ (γ : Nat → Value) (L : Nat → Bool) (a : Act) (w : World), RV.Held D WA R (fun γ L w9 => Below V.heap.size V w9) Z γ L a w → a.tmps[1]? = some (.pointer (some ⟨w0.heap.size, 0, none⟩)) := fun γ L a w hH => (hH.rest 1 (by rw [← hD]; exact RV.dst_free (by kernel_rfl))).trans (by rw [← hZ]; rfl)
    have K : ∀ j v w w', R j v w → R j v w' := by rw [hR]; intro j v w w' h; exact h
    clear hD hWA hZ hR
    refine RV.AllDo.cons 0 (RV.does_pure (fun γ v L w hl h => h) (fun γ L a w hH hl hA => by have e0 := E1 γ L a w hH; exact ⟨.pointer (some ⟨w0.heap.size, 0, none⟩), by simp [execOp, go_sem, e0], (r0 _ _).mpr rfl⟩)) ?_
    refine RV.AllDo.cons 1 (RV.does_pure (fun γ v L w hl h => h) (fun γ L a w hH hl hA => by have l0 : L 0 = true := hA ⟨0, .data⟩ (by simp) rfl; have e0 := hH.slot 0 4 d0 l0; have g0 := hH.holds 0 l0; rw [r0] at g0; rw [g0] at e0; have hB9 := hH.glob; have z0 := c_after hB9 V0_0; exact ⟨.int .i64 (x), by simp [execOp, go_sem, e0, z0], (r1 _ _).mpr rfl⟩)) ?_
    refine RV.AllDo.cons 2 (RV.does_pure (fun γ v L w hl h => h) (fun γ L a w hH hl hA => by have e0 := E1 γ L a w hH; exact ⟨.pointer (some ⟨w0.heap.size, 1, none⟩), by simp [execOp, go_sem, e0], (r2 _ _).mpr rfl⟩)) ?_
    refine RV.AllDo.cons 3 (RV.does_pure (fun γ v L w hl h => h) (fun γ L a w hH hl hA => by have l0 : L 2 = true := hA ⟨2, .data⟩ (by simp) rfl; have e0 := hH.slot 2 6 d2 l0; have g0 := hH.holds 2 l0; rw [r2] at g0; rw [g0] at e0; have hB9 := hH.glob; have z0 := c_after hB9 V0_1; exact ⟨.int .i64 (y), by simp [execOp, go_sem, e0, z0], (r3 _ _).mpr rfl⟩)) ?_
    refine RV.AllDo.cons 4 (RV.does_call (fun γ L a w hH hl hA => by have l0 : L 1 = true := hA ⟨1, .data⟩ (by simp) rfl; have e0 := hH.slot 1 5 d1 l0; have g0 := hH.holds 1 l0; rw [r1] at g0; rw [g0] at e0; have l1 : L 3 = true := hA ⟨3, .data⟩ (by simp) rfl; have e1 := hH.slot 3 7 d3 l1; have g1 := hH.holds 3 l1; rw [r3] at g1; rw [g1] at e1; have hB9 := hH.glob; exact ⟨106, #[.int .i64 (x), .int .i64 (y)], by simp [go_sem, e0, e1], Calls.mono (G1.out w) (by rintro e w2 ⟨rfl, hb⟩; exact ⟨_, rfl, (r4 _ _).mpr rfl, fun j v _ h => K j v _ _ h, hB9.trans (hb.mono hB9.size)⟩)⟩)) ?_
    refine RV.AllDo.cons 5 (RV.does_pure (fun γ v L w hl h => h) (fun γ L a w hH hl hA => by have e0 := E1 γ L a w hH; exact ⟨.pointer (some ⟨w0.heap.size, 2, none⟩), by simp [execOp, go_sem, e0], (r5 _ _).mpr rfl⟩)) ?_
    refine RV.AllDo.cons 6 (RV.does_pure (fun γ v L w hl h => h) (fun γ L a w hH hl hA => by have l0 : L 5 = true := hA ⟨5, .data⟩ (by simp) rfl; have e0 := hH.slot 5 9 d5 l0; have g0 := hH.holds 5 l0; rw [r5] at g0; rw [g0] at e0; have hB9 := hH.glob; have z0 := c_after hB9 V0_2; exact ⟨.int .i64 (z), by simp [execOp, go_sem, e0, z0], (r6 _ _).mpr rfl⟩)) ?_
    refine RV.AllDo.cons 7 (RV.does_call (fun γ L a w hH hl hA => by have l0 : L 4 = true := hA ⟨4, .data⟩ (by simp) rfl; have e0 := hH.slot 4 8 d4 l0; have g0 := hH.holds 4 l0; rw [r4] at g0; rw [g0] at e0; have l1 : L 6 = true := hA ⟨6, .data⟩ (by simp) rfl; have e1 := hH.slot 6 10 d6 l1; have g1 := hH.holds 6 l1; rw [r6] at g1; rw [g1] at e1; have hB9 := hH.glob; exact ⟨106, #[.int .i64 ((m1 : Nat)), .int .i64 (z)], by simp [go_sem, e0, e1], Calls.mono (G2.out w) (by rintro e w2 ⟨rfl, hb⟩; exact ⟨_, rfl, (r7 _ _).mpr rfl, fun j v _ h => K j v _ _ h, hB9.trans (hb.mono hB9.size)⟩)⟩)) ?_
    refine RV.AllDo.cons 8 (RV.does_pure (fun γ v L w hl h => h) (fun γ L a w hH hl hA => by have l0 : L 7 = true := hA ⟨7, .data⟩ (by simp) rfl; have e0 := hH.slot 7 11 d7 l0; have g0 := hH.holds 7 l0; rw [r7] at g0; rw [g0] at e0; exact ⟨.int .i64 ((m2 : Nat)), by simp [execOp, go_sem, e0], (r8 _ _).mpr rfl⟩)) ?_
    exact RV.AllDo.nil
  · intro γ a5 w5 L9 hL hLo hH
    have ha := RV.held_act hH hL (by kernel_rfl) (by kernel_rfl)
    have hb8 := hH.glob
    have y0 : γ 0 = .pointer (some ⟨w0.heap.size, 0, none⟩) := hH.holds 0 (hL 0 (by decide))
    have y1 : γ 1 = .int .i64 (x) := hH.holds 1 (hL 1 (by decide))
    have y2 : γ 2 = .pointer (some ⟨w0.heap.size, 1, none⟩) := hH.holds 2 (hL 2 (by decide))
    have y3 : γ 3 = .int .i64 (y) := hH.holds 3 (hL 3 (by decide))
    have y4 : γ 4 = .int .i64 ((m1 : Nat)) := hH.holds 4 (hL 4 (by decide))
    have y5 : γ 5 = .pointer (some ⟨w0.heap.size, 2, none⟩) := hH.holds 5 (hL 5 (by decide))
    have y6 : γ 6 = .int .i64 (z) := hH.holds 6 (hL 6 (by decide))
    have y7 : γ 7 = .int .i64 ((m2 : Nat)) := hH.holds 7 (hL 7 (by decide))
    have y8 : γ 8 = .int .i64 ((m2 : Nat)) := hH.holds 8 (hL 8 (by decide))
    rw [ha]
    clear ha hH hL hLo
    simp only [RV.putAll, Act.put, List.setIfInBounds_toArray, List.set_cons_zero, List.set_cons_succ, Nat.zero_add, Nat.reduceAdd, y0, y1, y2, y3, y4, y5, y6, y7, y8]
    clear y0 y1 y2 y3 y4 y5 y6 y7 y8
    have hB5 := hBV.trans (hb8.mono hBV.size)
    have p0 := c_after hb8 V0_0
    have p1 := c_after hb8 V0_1
    have p2 := c_after hb8 V0_2
    have q0 := c_after hb8 V1_0
    have q1 := c_after hb8 V1_1
    have q2 := c_after hb8 V1_2
    have k0 := f_after hb8 V1_0 Vf1_0
    have k1 := f_after hb8 V1_1 Vf1_1
    have k2 := f_after hb8 V1_2 Vf1_2
    by_cases h0 : m2 = 0
    · have h0' : (m2 : Int) = 0 := by omega
      have e : r = ⟨x, y, z⟩ := by rw [HL.out, if_pos h0]
      subst e
      clear HL HD G1 G2 h0
      go_wp2_with (fail)
      refine bodyPost_ret (v := .agg #[.int .i64 x, .int .i64 y, .int .i64 z]) (by simp [results, Try.results96, go_sem, q0, q1, q2]) rfl ⟨rfl, ?_⟩
      exact (((hB5.setCell (by simp) _).setCell (by simp) _).setCell (by simp) _)
    · have h0' : ¬ (m2 : Int) = 0 := by omega
      have e : r = Pt.by ⟨x, y, z⟩ m2 := by rw [HL.out, if_neg h0]
      have HD : Hid _ := HD.out h0
      rw [← e] at HD
      obtain ⟨rx, ry, rz⟩ := r
      clear e HL G1 G2
      dsimp only at *
      go_wp2_with (fail)
      refine Calls.mono (HD.out _) ?_
      clear HD
      rintro e W9 ⟨rfl, hb9⟩
      have q0 := c_after hb9 q0
      have q1 := c_after hb9 q1
      have q2 := c_after hb9 q2
      have k0 := f_after hb9 (c_after hb8 V1_0) k0
      have k1 := f_after hb9 (c_after hb8 V1_1) k1
      have k2 := f_after hb9 (c_after hb8 V1_2) k2
      go_wp2
      refine bodyPost_ret (v := .agg #[.int .i64 rx, .int .i64 ry, .int .i64 rz]) (by simp [results, Try.results96, go_sem, q0, q1, q2]) rfl ⟨rfl, ?_⟩
      exact ((((b_step hB5 hb9).setCell (by simp) _).setCell (by simp) _).setCell (by simp) _)
theorem halveF_step (k : Nat) (q : Pt) (h : q.inB 1048576 = false) (hb : q.inB (2 ^ k : Nat) = true) : ∃ j, k = j + 1 ∧ halveF k q = halveF j (q.by 2) ∧ (q.by 2).inB (2 ^ j : Nat) = true := by
  cases k with
  | zero => rw [inB_mono hb (by decide)] at h; cases h
  | succ j =>
    refine ⟨j, rfl, by rw [halveF, if_neg (by rw [h]; decide)], half_in ?_⟩
    rw [Nat.pow_succ, Nat.mul_comm, Int.natCast_mul] at hb
    exact hb
theorem cast_pow (k : Nat) (h : k ≤ 43) : (((2 ^ k : Nat) : Nat) : Int) ≤ 8796093022208 := by
  have := Nat.pow_le_pow_right (n := 2) (by decide) h
  have e : 2 ^ 43 = 8796093022208 := by decide
  omega
set_option maxHeartbeats 1000000 in
set_option maxRecDepth 100000 in
theorem short_any (p : Pt) (w0 : World) :
    Calls Try.prog 75 #[p.v] w0 fun e W => e = .returned p.short.v ∧ Below w0.heap.size w0 W := by
  have HW : Hid (∀ w', Calls Try.prog 95 #[p.v, .int .i64 4398046511104] w' fun e W => e = .returned (.bool (p.inB 4398046511104)) ∧ Below w'.heap.size w' W) := fun w' => within_any p _ w' (by decide) (by decide)
  have HX : Hid (∀ q : Pt, ∀ w', Calls Try.prog 95 #[q.v, .int .i64 1048576] w' fun e W => e = .returned (.bool (q.inB 1048576)) ∧ Below w'.heap.size w' W) := fun q w' => within_any q _ w' (by decide) (by decide)
  have HLO : Hid (∀ q : Pt, q.inB 4398046511104 = true → ∀ w', Calls Try.prog 96 #[q.v] w' fun e W => e = .returned q.low.v ∧ Below w'.heap.size w' W) := fun q hq w' => lowest_any q w' hq
  have HD : Hid (∀ q : Pt, q.inB 1152921504606846976 = true → ∀ w', Calls Try.prog 97 #[q.v, .int .i64 2] w' fun e W => e = .returned (q.by 2).v ∧ Below w'.heap.size w' W) := fun q hq w' => divided_any q 2 w' hq (by decide) (by decide)
  have bx0 : Hid (Box3 ((w0.alloc (.cells #[.int .i64 p.x, .int .i64 p.y, .int .i64 p.z] 26)).alloc (.cells #[.int .i64 0, .int .i64 0, .int .i64 0] 26)) w0.heap.size p) := (Box3.new w0 p.x p.y p.z _).step (n_after _ _)
  have bx1 : Hid (Box3 ((w0.alloc (.cells #[.int .i64 p.x, .int .i64 p.y, .int .i64 p.z] 26)).alloc (.cells #[.int .i64 0, .int .i64 0, .int .i64 0] 26)) (w0.heap.size + 1) Pt.O) := by have := Box3.new (w0.alloc (.cells #[.int .i64 p.x, .int .i64 p.y, .int .i64 p.z] 26)) 0 0 0 26; rwa [World.size_alloc] at this
  have hB0 : Hid (Below w0.heap.size w0 ((w0.alloc (.cells #[.int .i64 p.x, .int .i64 p.y, .int .i64 p.z] 26)).alloc (.cells #[.int .i64 0, .int .i64 0, .int .i64 0] 26))) := b_step (n_after w0 _) (n_after _ _)
  obtain ⟨r, hr⟩ : ∃ r, p.short = r := ⟨_, rfl⟩
  rw [hr]
  have HR : Hid _ := hr
  clear hr
  unfold Pt.v at *
  go_enter Try.func75, Try.ntmps75
  go_wp2_with (fail)
  refine Calls.mono (HW.out _) ?_
  clear HW
  rintro e V ⟨rfl, hb⟩
  have b0 : Hid _ := bx0.out.step hb
  have b1 : Hid _ := bx1.out.step hb
  have hB : Hid _ := b_step hB0.out hb
  clear bx0 bx1 hB0 hb
  cases hin : p.inB 4398046511104 with
  | false =>
    have e : r = Pt.O := by rw [← HR.out]; unfold Pt.short; rw [if_neg (by rw [hin]; decide)]
    clear HR
    subst e
    obtain ⟨c0, c1, c2, f0, f1, f2⟩ := b1.out
    simp only [Pt.O] at c0 c1 c2
    go_wp2_with (fail)
    refine bodyPost_ret (v := .agg #[.int .i64 0, .int .i64 0, .int .i64 0]) (by simp [results, Try.results75, go_sem, c0, c1, c2]) rfl ⟨rfl, ?_⟩
    exact set3_below hB.out (by omega) 0 0 0
  | true =>
    have hlow := Pt.low_in hin
    have HR : Hid (r = (halveF 43 p.low).low) := by show _ = _; rw [← HR.out]; unfold Pt.short; rw [if_pos hin]; rfl
    have HL1 : Hid _ := HLO.out p hin
    obtain ⟨c0, c1, c2, f0, f1, f2⟩ := b0.out
    go_wp2_with (fail)
    refine Calls.mono (HL1.out _) ?_
    clear HL1
    rintro e V2 ⟨rfl, hb⟩
    have b0 : Hid (Box3 (set3 V2 w0.heap.size p.low.x p.low.y p.low.z) w0.heap.size p.low) := (b0.out.step hb).set _ _ _
    have b1 : Hid (Box3 (set3 V2 w0.heap.size p.low.x p.low.y p.low.z) (w0.heap.size + 1) Pt.O) := (b1.out.step hb).other (by omega) _ _ _
    have hB : Hid (Below w0.heap.size w0 (set3 V2 w0.heap.size p.low.x p.low.y p.low.z)) := set3_below (b_step hB.out hb) (Nat.le_refl _) _ _ _
    have d0 := c_after hb c0
    have d1 := c_after hb c1
    have d2 := c_after hb c2
    have f0 := f_after hb c0 f0
    have f1 := f_after hb c1 f1
    have f2 := f_after hb c2 f2
    unfold set3 at b0 b1 hB
    clear hb c0 c1 c2
    go_wp2_with (fail)
    clear d0 d1 d2 f0 f1 f2
    have hL2 : p.low.inB (2 ^ 43 : Nat) = true := inB_mono hlow (by decide)
    go_loopg [] 43 (fun g wr => ∃ q : Pt, Hid (Box3 wr w0.heap.size q) ∧ Hid (Box3 wr (w0.heap.size + 1) Pt.O) ∧ Hid (Below w0.heap.size w0 wr) ∧ g ≤ 43 ∧ Hid (halveF g q = halveF 43 p.low) ∧ Hid (q.inB (2 ^ g : Nat) = true))
    case atStart => exact ⟨p.low, b0, b1, hB, Nat.le_refl _, rfl, hL2⟩
    case round =>
      clear b0 b1 hB hL2
      obtain ⟨q, b0, b1, hB, hg, HF, HI⟩ := hrel
      have hG : Hid _ := hg
      clear hg
      obtain ⟨c0, c1, c2, f0, f1, f2⟩ := b0.out
      go_wp2_with (fail)
      refine Calls.mono (HX.out q _) ?_
      rintro e V3 ⟨rfl, hb⟩
      clear c0 c1 c2 f0 f1 f2
      have b0 : Hid _ := b0.out.step hb
      have b1 : Hid _ := b1.out.step hb
      have hB : Hid _ := b_step hB.out hb
      clear hb
      cases hq : q.inB 1048576 with
      | false =>
        obtain ⟨j, hj, ej, hin2⟩ := halveF_step _ q hq HI.out
        have HJ : Hid _ := And.intro hj (And.intro ej hin2)
        have hq2 : q.inB 1152921504606846976 = true := inB_mono HI.out (by have := cast_pow _ hG.out; omega)
        have HD2 : Hid _ := HD.out q hq2
        clear hj ej hin2 hq2
        obtain ⟨c0, c1, c2, f0, f1, f2⟩ := b0.out
        go_wp2_with (fail)
        refine Calls.mono (HD2.out _) ?_
        clear HD2
        rintro e V4 ⟨rfl, hb⟩
        have b0 : Hid (Box3 (set3 V4 w0.heap.size (q.by 2).x (q.by 2).y (q.by 2).z) w0.heap.size (q.by 2)) := (b0.out.step hb).set _ _ _
        have b1 : Hid (Box3 (set3 V4 w0.heap.size (q.by 2).x (q.by 2).y (q.by 2).z) (w0.heap.size + 1) Pt.O) := (b1.out.step hb).other (by omega) _ _ _
        have hB : Hid (Below w0.heap.size w0 (set3 V4 w0.heap.size (q.by 2).x (q.by 2).y (q.by 2).z)) := set3_below (b_step hB.out hb) (Nat.le_refl _) _ _ _
        have d0 := c_after hb c0
        have d1 := c_after hb c1
        have d2 := c_after hb c2
        have f0 := f_after hb c0 f0
        have f1 := f_after hb c1 f1
        have f2 := f_after hb c2 f2
        unfold set3 at b0 b1 hB
        clear hb c0 c1 c2
        go_wp2_with (fail)
        go_roundg j
        case measure => have := HJ.out.1; omega
        case rel => exact ⟨q.by 2, b0, b1, hB, by have := HJ.out.1; have := hG.out; omega, HJ.out.2.1.symm.trans HF.out, HJ.out.2.2⟩
      | true =>
        have e : r = q.low := by rw [HR.out, ← HF.out, halveF_id _ _ hq]
        have HL1 : Hid _ := HLO.out q (inB_mono hq (by decide))
        rw [← e] at HL1
        clear e HR HF HI HX HLO HD
        obtain ⟨c0, c1, c2, f0, f1, f2⟩ := b0.out
        go_wp2_with (fail)
        refine Calls.mono (HL1.out _) ?_
        clear HL1 c0 c1 c2 f0 f1 f2
        rintro e V4 ⟨rfl, hb⟩
        obtain ⟨c0, c1, c2, f0, f1, f2⟩ := b1.out.step hb
        have hB : Hid _ := b_step hB.out hb
        go_wp2_with (fail)
        refine bodyPost_ret (v := .agg #[.int .i64 r.x, .int .i64 r.y, .int .i64 r.z]) (by simp [results, Try.results75, go_sem, c0, c1, c2]) rfl ⟨rfl, ?_⟩
        exact set3_below hB.out (by omega) _ _ _
end Go.Proofs.Ytccdgpijjgeedaa
/- Lists of points: found in, added to. -/
namespace Go.Proofs.Ytccdgpijjgeedaa
open Go.RowKit Go.Shelf
set_option linter.unusedVariables false

theorem pt_eq (p q : Pt) : p = q ↔ p.x = q.x ∧ p.y = q.y ∧ p.z = q.z := by cases p; cases q; simp
end Go.Proofs.Ytccdgpijjgeedaa
/- Edges are added. -/
namespace Go.Proofs.Ytccdgpijjgeedaa
open Go.RowKit Go.Shelf
set_option linter.unusedVariables false

theorem own_set3 {W : World} {base : Nat} {t : TypeId} {sz n : Nat} {u : Value} {xs : List Value} {b : Nat} (h : W.ownsRow base t sz u n xs) (hne : u.ownBlock ≠ some b) (x y z : Int) : (set3 W b x y z).ownsRow base t sz u n xs :=
  ownsRow_setCell_other (ownsRow_setCell_other (ownsRow_setCell_other h hne _) hne _) hne _
/-- Three cells a point, from a block's beginning on. -/
def At (W : World) (g : Nat) (M : List Pt) : Prop := ∀ i, i < M.length → W.cell? ⟨g, i * 3, none⟩ = some (.int .i64 (pt M i).x) ∧ W.cell? ⟨g, i * 3 + 1, none⟩ = some (.int .i64 (pt M i).y) ∧ W.cell? ⟨g, i * 3 + 2, none⟩ = some (.int .i64 (pt M i).z)
theorem At.below {w W : World} {g : Nat} {M : List Pt} (h : At w g M) (hb : Below w.heap.size w W) : At W g M := fun i hi => ⟨c_after hb (h i hi).1, c_after hb (h i hi).2.1, c_after hb (h i hi).2.2⟩
theorem At.grown {w W : World} {g : Nat} {M : List Pt} {row : Option Nat} (h : At w g M) (hg : w.grownBy W row) (hne : row ≠ some g) : At W g M := fun i hi =>
  ⟨hg.cell (h i hi).1 (fun e => hne e.symm), hg.cell (h i hi).2.1 (fun e => hne e.symm), hg.cell (h i hi).2.2 (fun e => hne e.symm)⟩
theorem At.set3 {w : World} {g b : Nat} {M : List Pt} (h : At w g M) (hne : g ≠ b) (x y z : Int) : At (set3 w b x y z) g M := by
  intro i hi
  obtain ⟨a, b, c⟩ := h i hi
  unfold Go.Proofs.Ytccdgpijjgeedaa.set3
  exact ⟨by simp [go_sem, a], by simp [go_sem, b], by simp [go_sem, c]⟩
theorem edges_snoc (E M : List Pt) (k : Nat) (hk : k < M.length) : withEdgesP E (M.take (k + 1)) = withEdgeP (withEdgesP E (M.take k)) (pt M k) := by
  unfold withEdgesP
  rw [take_pt hk, List.foldl_append]; rfl
theorem edges_len (E M : List Pt) : (withEdgesP E M).length ≤ E.length + M.length := by
  unfold withEdgesP
  induction M generalizing E with
  | nil => simp
  | cons m r ih =>
    have := ih (withEdgeP E m)
    have h2 : (withEdgeP E m).length ≤ E.length + 1 := by unfold withEdgeP; split <;> simp
    simp only [List.foldl_cons, List.length_cons]
    omega
/-- A round's end: what is told of the list, of the others, and of the world. -/
structure ER (w wr : World) (B : Nat) (u0 u : Value) (g : Nat) (M E : List Pt) : Prop where
  row : wr.ownsRow B 26 3 u E.length (fl3 E)
  more : At wr g M
  off : u.ownBlock ≠ some g
  grew : Grew w wr u0 u
  gl : g < w.heap.size
theorem ER.below {w wr W : World} {B : Nat} {u0 u : Value} {g : Nat} {M E : List Pt} (h : ER w wr B u0 u g M E) (hb : Below wr.heap.size wr W) : ER w W B u0 u g M E :=
  ⟨own_below h.row hb, h.more.below hb, h.off, h.grew.trans (Grew.below hb _), h.gl⟩
theorem ER.set {w wr : World} {B : Nat} {u0 u : Value} {g b : Nat} {M E : List Pt} (h : ER w wr B u0 u g M E) (hu : u.ownBlock ≠ some b) (hb : w.heap.size ≤ b) (x y z : Int) : ER w (set3 wr b x y z) B u0 u g M E := by
  refine ⟨own_set3 h.row hu _ _ _, h.more.set3 (by have := h.gl; omega) _ _ _, h.off, ⟨?_, h.grew.same⟩, h.gl⟩
  have hb3 : Below b wr (set3 wr b x y z) := set3_below (Below.refl _ _) (Nat.le_refl _) _ _ _
  refine ⟨hb3.os.trans h.grew.grown.os, hb3.tape.trans h.grew.grown.tape, hb3.output.trans h.grew.grown.output, Nat.le_trans h.grew.grown.size hb3.size, fun k hk hn => (hb3.block k (by omega)).trans (h.grew.grown.block k hk hn)⟩
theorem ER.app {w wr W : World} {B : Nat} {u0 u u' : Value} {g : Nat} {M E E' : List Pt} (h : ER w wr B u0 u g M E) (hr : W.ownsRow B 26 3 u' E'.length (fl3 E')) (hg : Grew wr W u u') : ER w W B u0 u' g M E' := by
  refine ⟨hr, h.more.grown hg.grown h.off, ?_, h.grew.trans hg, h.gl⟩
  rcases hg.same with e | ⟨k, e, hk⟩
  · rw [e]; exact h.off
  · rw [e]; intro e'; cases e'; have := h.grew.grown.size; have := h.gl; omega
theorem ER.lt {w wr : World} {B : Nat} {u0 u : Value} {g : Nat} {M E : List Pt} (h : ER w wr B u0 u g M E) {b : Nat} (hb : wr.heap.size ≤ b) : u.ownBlock ≠ some b := fun e => by have := (h.row.lt b e).2; omega

end Go.Proofs.Ytccdgpijjgeedaa
