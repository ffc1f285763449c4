/- Shapes made right of raw ones may be, and are checked, and have cores and masses, as the document says: for every raw shape and mass. -/
import Derived.Test.YtiicpdlaaklahaaSCores
import Derived.Test.YtiicpdlaaklahaaOpenS
import Derived.Test.YtiicpdlaaklahaaRows
import Derived.ProofKit
import Derived.OpenShut
namespace Go.Proofs.Ytiicpdlaaklahaa
namespace shapeRight
open Go.ChangeShapes Go.WideShapes Go.ChangeAt Go.RowKit Go.Shelf
set_option linter.unusedVariables false

theorem own : ownKnob Try.prog.godebug = none := by kernel_rfl
theorem laidOut : laidOutB Try.prog = true := by kernel_rfl

set_option maxHeartbeats 2000000 in
set_option maxRecDepth 100000 in
theorem walk (k rr x y z : Int) (o : Option Addr) (L : List Pt) (c : Nat) (mass : Int) (w0 : World) (hL : Lies w0 (.slice o L.length c) L) (hF : ∀ p ∈ L, p.fits) (bk : -9223372036854775808 ≤ k ∧ k ≤ 9223372036854775807) (br : -9223372036854775808 ≤ rr ∧ rr ≤ 9223372036854775807) (bx : -9223372036854775808 ≤ x ∧ x ≤ 9223372036854775807) (by_ : -9223372036854775808 ≤ y ∧ y ≤ 9223372036854775807) (bz : -9223372036854775808 ≤ z ∧ z ≤ 9223372036854775807) (bm : -9223372036854775808 ≤ mass ∧ mass ≤ 9223372036854775807) :
    Calls Try.prog 4 #[.agg #[.int .i64 k, .int .i64 rr, .int .i64 x, .int .i64 y, .int .i64 z, .slice o L.length c], .int .i64 mass] w0 fun e w' => e = .returned (.bool true) ∧ Below w0.heap.size w0 w' := by
  have HR : Hid _ := fun w' (h : Lies w' (.slice o L.length c) L) => right_any k rr x y z (.slice o L.length c) L w' bk br bx by_ bz h hF
  have HL : Hid _ := hL
  have P1' := fun w' => pick_below mass 1099494850561 w' bm (by decide) (by decide)
  have l6 := pickZ_lo mass (n := 1099494850561) (by decide)
  have u6 := pickZ_hi mass (n := 1099494850561) (by decide)
  generalize pickZ mass 1099494850561 = pm at *
  have P1 : Hid _ := P1'
  obtain ⟨a9, ha⟩ : ∃ a, a = 16777216 + pm := ⟨_, rfl⟩
  have e27 : IntKind.i64.wrap (16777216 + pm) = a9 := by rw [IntKind.wrap_i64]; omega
  clear bk br bx by_ bz hF hL bm P1' l6 u6 ha
  have B1 : Hid (Cells (w0.alloc (.cells #[.int .i64 k, .int .i64 rr, .int .i64 x, .int .i64 y, .int .i64 z, .slice o L.length c] 42)) w0.heap.size [.int .i64 k, .int .i64 rr, .int .i64 x, .int .i64 y, .int .i64 z, .slice o L.length c]) := Cells.new w0 [.int .i64 k, .int .i64 rr, .int .i64 x, .int .i64 y, .int .i64 z, .slice o L.length c] _
  have hB : Hid (Below w0.heap.size w0 (w0.alloc (.cells #[.int .i64 k, .int .i64 rr, .int .i64 x, .int .i64 y, .int .i64 z, .slice o L.length c] 42))) := n_after w0 _
  have c0 := (B1.out 0 _ rfl).1
  have c1 := (B1.out 1 _ rfl).1
  have c2 := (B1.out 2 _ rfl).1
  have c3 := (B1.out 3 _ rfl).1
  have c4 := (B1.out 4 _ rfl).1
  have c5 := (B1.out 5 _ rfl).1
  go_enter Try.func4, Try.ntmps4
  go_wp2_with (fail)
  refine Calls.mono (HR.out _ (HL.out.below hB.out)) ?_
  clear HR
  rintro e V2 ⟨s, u, rfl, hRow, hGood, _⟩
  have hD : Hid _ := b_step hB.out hRow.below
  obtain ⟨sk, sr, ⟨sx, sy, sz⟩, M⟩ := s
  have hck := hGood.ok
  have HU : Hid _ := hRow.lies
  have hrow := hRow.row
  clear hRow hGood c0 c1 c2 c3 c4 c5 B1 HL hB
  have hform : ∃ ou cu, u = .slice ou M.length cu ∧ (ou = none → M.length = 0 ∧ cu = 0) := by
    rcases hrow.2 with ⟨rfl, h0⟩ | ⟨g, cap, cur, rfl, _⟩
    · dsimp only at h0; exact ⟨none, 0, by rw [h0], fun _ => ⟨h0, rfl⟩⟩
    · exact ⟨_, _, rfl, fun e => by cases e⟩
  obtain ⟨ou, cu, rfl, hnil⟩ := hform
  clear hrow
  have HK : Hid _ := fun w' (h : Lies w' (.slice ou M.length cu) M) => check_any ⟨sk, sr, ⟨sx, sy, sz⟩, M⟩ (.slice ou M.length cu) w' h
  have HS : Hid _ := fun w' (h : Lies w' (.slice ou M.length cu) M) => cores_law sk sr sx sy sz ou M cu a9 w' h hnil
  rw [hck] at HK
  clear hck hnil
  unfold Sh.v at *
  dsimp only at *
  go_upto_region 2 with fail
  obtain ⟨V3, hN⟩ : ∃ X : World, X = V2.alloc (.cells #[.int .i64 sk, .int .i64 sr, .int .i64 sx, .int .i64 sy, .int .i64 sz, .slice ou M.length cu] 26) := ⟨_, rfl⟩
  obtain ⟨bs, hbb⟩ : ∃ b, b = V2.heap.size := ⟨_, rfl⟩
  have h : Below V2.heap.size V2 V3 := by rw [hN]; exact n_after _ _
  have BS : Hid (Cells V3 bs [.int .i64 sk, .int .i64 sr, .int .i64 sx, .int .i64 sy, .int .i64 sz, .slice ou M.length cu]) := by rw [hN, hbb]; exact Cells.new V2 [.int .i64 sk, .int .i64 sr, .int .i64 sx, .int .i64 sy, .int .i64 sz, .slice ou M.length cu] _
  rw [← hN, ← hbb]
  have HU : Hid _ := HU.out.below h
  have hD : Hid _ := b_step hD.out h
  clear hN hbb h
  have c0 := (BS.out 0 _ rfl).1
  have c1 := (BS.out 1 _ rfl).1
  have c2 := (BS.out 2 _ rfl).1
  have c3 := (BS.out 3 _ rfl).1
  have c4 := (BS.out 4 _ rfl).1
  have c5 := (BS.out 5 _ rfl).1
  refine RV.region_by (fun j v w => match j with | 0 => v = .agg #[.int .i64 sk, .int .i64 sr, .int .i64 sx, .int .i64 sy, .int .i64 sz, .slice ou M.length cu] | 1 => v = .int .i64 (0) | 2 => v = .bool (true) | 3 => v = .bool (true) | 4 => v = .agg #[.int .i64 sk, .int .i64 sr, .int .i64 sx, .int .i64 sy, .int .i64 sz, .slice ou M.length cu] | 5 => v = .int .i64 (mass) | 6 => v = .int .i64 (pm) | 7 => v = .int .i64 (a9) | 8 => v = .bool (true) | 9 => v = .bool (true) | 10 => v = .bool (true) | _ => True) (fun γ L w9 => Below V3.heap.size V3 w9) (by kernel_rfl) (by kernel_rfl) (by kernel_rfl) (by kernel_rfl) ?_ ?_ ?_
  · exact (Below.refl _ V3).drew
  · generalize hD : dstOf _ = D
    generalize hWA : waitsFor _ = WA
    generalize hZ : Act.mk _ _ = Z
    obtain ⟨R, hR⟩ : ∃ R : Nat → Value → World → Prop, R = (fun j v w => match j with | 0 => v = .agg #[.int .i64 sk, .int .i64 sr, .int .i64 sx, .int .i64 sy, .int .i64 sz, .slice ou M.length cu] | 1 => v = .int .i64 (0) | 2 => v = .bool (true) | 3 => v = .bool (true) | 4 => v = .agg #[.int .i64 sk, .int .i64 sr, .int .i64 sx, .int .i64 sy, .int .i64 sz, .slice ou M.length cu] | 5 => v = .int .i64 (mass) | 6 => v = .int .i64 (pm) | 7 => v = .int .i64 (a9) | 8 => v = .bool (true) | 9 => v = .bool (true) | 10 => v = .bool (true) | _ => True) := ⟨_, rfl⟩
    rw [← hR]
    have d0 : D 0 = some 8 := by rw [← hD]; rfl
    have d1 : D 1 = some 9 := by rw [← hD]; rfl
    have d2 : D 2 = some 10 := by rw [← hD]; rfl
    have d3 : D 3 = some 11 := by rw [← hD]; rfl
    have d4 : D 4 = some 12 := by rw [← hD]; rfl
    have d5 : D 5 = some 13 := by rw [← hD]; rfl
    have d6 : D 6 = some 14 := by rw [← hD]; rfl
    have d7 : D 7 = some 15 := by rw [← hD]; rfl
    have d8 : D 8 = some 16 := by rw [← hD]; rfl
    have d9 : D 9 = some 17 := by rw [← hD]; rfl
    have d10 : D 10 = some 4 := by rw [← hD]; rfl
    have r0 : ∀ v w, R 0 v w = (v = .agg #[.int .i64 sk, .int .i64 sr, .int .i64 sx, .int .i64 sy, .int .i64 sz, .slice ou M.length cu]) := fun v w => by rw [hR]; rfl
    have r1 : ∀ v w, R 1 v w = (v = .int .i64 (0)) := fun v w => by rw [hR]; rfl
    have r2 : ∀ v w, R 2 v w = (v = .bool (true)) := fun v w => by rw [hR]; rfl
    have r3 : ∀ v w, R 3 v w = (v = .bool (true)) := fun v w => by rw [hR]; rfl
    have r4 : ∀ v w, R 4 v w = (v = .agg #[.int .i64 sk, .int .i64 sr, .int .i64 sx, .int .i64 sy, .int .i64 sz, .slice ou M.length cu]) := fun v w => by rw [hR]; rfl
    have r5 : ∀ v w, R 5 v w = (v = .int .i64 (mass)) := fun v w => by rw [hR]; rfl
    have r6 : ∀ v w, R 6 v w = (v = .int .i64 (pm)) := fun v w => by rw [hR]; rfl
    have r7 : ∀ v w, R 7 v w = (v = .int .i64 (a9)) := fun v w => by rw [hR]; rfl
    have r8 : ∀ v w, R 8 v w = (v = .bool (true)) := fun v w => by rw [hR]; rfl
    have r9 : ∀ v w, R 9 v w = (v = .bool (true)) := fun v w => by rw [hR]; rfl
    have r10 : ∀ v w, R 10 v w = (v = .bool (true)) := fun v w => by rw [hR]; rfl
    have E1 : ∀ (γ : Nat → Value) (L : Nat → Bool) (a : Act) (w : World), RV.Held D WA R (fun γ L w9 => Below V3.heap.size V3 w9) Z γ L a w → a.tmps[1]? = some (.int .i64 (mass)) := fun γ L a w hH => (hH.rest 1 (by rw [← hD]; exact RV.dst_free (by kernel_rfl))).trans (by rw [← hZ]; rfl)
    have E5 : ∀ (γ : Nat → Value) (L : Nat → Bool) (a : Act) (w : World), RV.Held D WA R (fun γ L w9 => Below V3.heap.size V3 w9) Z γ L a w → a.tmps[5]? = some (.pointer (some ⟨bs, 0, none⟩)) := fun γ L a w hH => (hH.rest 5 (by rw [← hD]; exact RV.dst_free (by kernel_rfl))).trans (by rw [← hZ]; rfl)
    have K : ∀ j v w w', R j v w → R j v w' := by rw [hR]; intro j v w w' h; exact h
    clear hD hWA hZ hR
    refine RV.AllDo.cons 0 (RV.does_pure (fun γ v L w hl h => h) (fun γ L a w hH hl hA => by have e0 := E5 γ L a w hH; have hB9 := hH.glob; have v0 := c_after hB9 c0; have v1 := c_after hB9 c1; have v2 := c_after hB9 c2; have v3 := c_after hB9 c3; have v4 := c_after hB9 c4; have v5 := c_after hB9 c5; exact ⟨.agg #[.int .i64 sk, .int .i64 sr, .int .i64 sx, .int .i64 sy, .int .i64 sz, .slice ou M.length cu], by simp [execOp, go_sem, e0, v0, v1, v2, v3, v4, v5], (r0 _ _).mpr rfl⟩)) ?_
    refine RV.AllDo.cons 1 (RV.does_call (fun γ L a w hH hl hA => by have l0 : L 0 = true := hA ⟨0, .data⟩ (by simp) rfl; have e0 := hH.slot 0 8 d0 l0; have g0 := hH.holds 0 l0; rw [r0] at g0; rw [g0] at e0; have hB9 := hH.glob; exact ⟨9, #[.agg #[.int .i64 sk, .int .i64 sr, .int .i64 sx, .int .i64 sy, .int .i64 sz, .slice ou M.length cu]], by simp [go_sem, e0], Calls.mono (HK.out w (HU.out.below hB9)) (by rintro e w2 ⟨rfl, hb⟩; exact ⟨_, rfl, (r1 _ _).mpr rfl, fun j v _ h => K j v _ _ h, hB9.trans (hb.mono hB9.size)⟩)⟩)) ?_
    refine RV.AllDo.cons 2 (RV.does_pure (fun γ v L w hl h => h) (fun γ L a w hH hl hA => by have l0 : L 1 = true := hA ⟨1, .data⟩ (by simp) rfl; have e0 := hH.slot 1 9 d1 l0; have g0 := hH.holds 1 l0; rw [r1] at g0; rw [g0] at e0; exact ⟨.bool (true), by simp [execOp, go_sem, e0], (r2 _ _).mpr rfl⟩)) ?_
    refine RV.AllDo.cons 3 (RV.does_pure (fun γ v L w hl h => h) (fun γ L a w hH hl hA => by have l0 : L 2 = true := hA ⟨2, .data⟩ (by simp) rfl; have e0 := hH.slot 2 10 d2 l0; have g0 := hH.holds 2 l0; rw [r2] at g0; rw [g0] at e0; exact ⟨.bool (true), by simp [execOp, go_sem, e0], (r3 _ _).mpr rfl⟩)) ?_
    refine RV.AllDo.cons 4 (RV.does_guarded rfl d3 (fun v w h => by rw [r3] at h; exact h) (by simp) (RV.does_pure (fun γ v L w hl h => h) (fun γ L a w hH hl hA => by have e0 := E5 γ L a w hH; have hB9 := hH.glob; have v0 := c_after hB9 c0; have v1 := c_after hB9 c1; have v2 := c_after hB9 c2; have v3 := c_after hB9 c3; have v4 := c_after hB9 c4; have v5 := c_after hB9 c5; exact ⟨.agg #[.int .i64 sk, .int .i64 sr, .int .i64 sx, .int .i64 sy, .int .i64 sz, .slice ou M.length cu], by simp [execOp, go_sem, e0, v0, v1, v2, v3, v4, v5], (r4 _ _).mpr rfl⟩))) ?_
    refine RV.AllDo.cons 5 (RV.does_guarded rfl d3 (fun v w h => by rw [r3] at h; exact h) (by simp) (RV.does_pure (fun γ v L w hl h => h) (fun γ L a w hH hl hA => by have e0 := E1 γ L a w hH; exact ⟨.int .i64 (mass), by simp [execOp, go_sem, e0], (r5 _ _).mpr rfl⟩))) ?_
    refine RV.AllDo.cons 6 (RV.does_guarded rfl d3 (fun v w h => by rw [r3] at h; exact h) (by simp) (RV.does_call (fun γ L a w hH hl hA => by have l0 : L 5 = true := hA ⟨5, .data⟩ (by simp) rfl; have e0 := hH.slot 5 13 d5 l0; have g0 := hH.holds 5 l0; rw [r5] at g0; rw [g0] at e0; have hB9 := hH.glob; exact ⟨18, #[.int .i64 (mass), .int .i64 (1099494850561)], by simp [go_sem, e0], Calls.mono (P1.out w) (by rintro e w2 ⟨rfl, hb⟩; exact ⟨_, rfl, (r6 _ _).mpr rfl, fun j v _ h => K j v _ _ h, hB9.trans (hb.mono hB9.size)⟩)⟩))) ?_
    refine RV.AllDo.cons 7 (RV.does_guarded rfl d3 (fun v w h => by rw [r3] at h; exact h) (by simp) (RV.does_pure (fun γ v L w hl h => h) (fun γ L a w hH hl hA => by have l0 : L 6 = true := hA ⟨6, .data⟩ (by simp) rfl; have e0 := hH.slot 6 14 d6 l0; have g0 := hH.holds 6 l0; rw [r6] at g0; rw [g0] at e0; exact ⟨.int .i64 (a9), by simp [execOp, go_sem, e0, e27], (r7 _ _).mpr rfl⟩))) ?_
    refine RV.AllDo.cons 8 (RV.does_guarded rfl d3 (fun v w h => by rw [r3] at h; exact h) (by simp) (RV.does_call (fun γ L a w hH hl hA => by have l0 : L 4 = true := hA ⟨4, .data⟩ (by simp) rfl; have e0 := hH.slot 4 12 d4 l0; have g0 := hH.holds 4 l0; rw [r4] at g0; rw [g0] at e0; have l1 : L 7 = true := hA ⟨7, .data⟩ (by simp) rfl; have e1 := hH.slot 7 15 d7 l1; have g1 := hH.holds 7 l1; rw [r7] at g1; rw [g1] at e1; have hB9 := hH.glob; exact ⟨3, #[.agg #[.int .i64 sk, .int .i64 sr, .int .i64 sx, .int .i64 sy, .int .i64 sz, .slice ou M.length cu], .int .i64 (a9)], by simp [go_sem, e0, e1], Calls.mono (HS.out w (HU.out.below hB9)) (by rintro e w2 ⟨rfl, hb⟩; exact ⟨_, rfl, (r8 _ _).mpr rfl, fun j v _ h => K j v _ _ h, hB9.trans (hb.mono hB9.size)⟩)⟩))) ?_
    refine RV.AllDo.cons 9 (RV.does_pure (fun γ v L w hl h => h) (fun γ L a w hH hl hA => by have l0 : L 3 = true := hA ⟨3, .data⟩ (by simp) rfl; have e0 := hH.slot 3 11 d3 l0; have g0 := hH.holds 3 l0; rw [r3] at g0; rw [g0] at e0; have l1 : L 8 = true := hA ⟨8, .data⟩ (by simp) rfl; have e1 := hH.slot 8 16 d8 l1; have g1 := hH.holds 8 l1; rw [r8] at g1; rw [g1] at e1; exact ⟨.bool (true), by simp [execOp, go_sem, e0, e1], (r9 _ _).mpr rfl⟩)) ?_
    refine RV.AllDo.cons 10 (RV.does_pure (fun γ v L w hl h => h) (fun γ L a w hH hl hA => by have l0 : L 9 = true := hA ⟨9, .data⟩ (by simp) rfl; have e0 := hH.slot 9 17 d9 l0; have g0 := hH.holds 9 l0; rw [r9] at g0; rw [g0] at e0; exact ⟨.bool (true), by simp [execOp, go_sem, e0], (r10 _ _).mpr rfl⟩)) ?_
    exact RV.AllDo.nil
  · intro γ a5 w5 L9 hL hLo hH
    have ha := RV.held_act hH hL (by kernel_rfl) (by kernel_rfl)
    have hb8 := hH.glob
    have y0 : γ 0 = .agg #[.int .i64 sk, .int .i64 sr, .int .i64 sx, .int .i64 sy, .int .i64 sz, .slice ou M.length cu] := hH.holds 0 (hL 0 (by decide))
    have y1 : γ 1 = .int .i64 (0) := hH.holds 1 (hL 1 (by decide))
    have y2 : γ 2 = .bool (true) := hH.holds 2 (hL 2 (by decide))
    have y3 : γ 3 = .bool (true) := hH.holds 3 (hL 3 (by decide))
    have y4 : γ 4 = .agg #[.int .i64 sk, .int .i64 sr, .int .i64 sx, .int .i64 sy, .int .i64 sz, .slice ou M.length cu] := hH.holds 4 (hL 4 (by decide))
    have y5 : γ 5 = .int .i64 (mass) := hH.holds 5 (hL 5 (by decide))
    have y6 : γ 6 = .int .i64 (pm) := hH.holds 6 (hL 6 (by decide))
    have y7 : γ 7 = .int .i64 (a9) := hH.holds 7 (hL 7 (by decide))
    have y8 : γ 8 = .bool (true) := hH.holds 8 (hL 8 (by decide))
    have y9 : γ 9 = .bool (true) := hH.holds 9 (hL 9 (by decide))
    have y10 : γ 10 = .bool (true) := hH.holds 10 (hL 10 (by decide))
    rw [ha]
    clear ha hH hL hLo
    simp only [RV.putAll, Act.put, List.setIfInBounds_toArray, List.set_cons_zero, List.set_cons_succ, Nat.zero_add, Nat.reduceAdd, y0, y1, y2, y3, y4, y5, y6, y7, y8, y9, y10]
    clear y0 y1 y2 y3 y4 y5 y6 y7 y8 y9 y10
    have hE : Hid _ := b_step hD.out hb8
    go_wp2_with (fail)
    go_ret
    exact ⟨rfl, hE.out⟩

/-! ### The row's step, after the guide's template -/
set_option maxRecDepth 100000 in
theorem lifted (os : Os) (started : os.Started) (H : Type) (enc : TypeId × Value → H) :
    ReturnsInHanded {} Try.checked os 4 .any (Rows.shapeRightSpec.pre6 enc Try.prog Try.f4 Rows.shapeRightRow.domain false) (Rows.shapeRightSpec.post enc Try.prog Try.f4 false true false false) := by
  refine returnsInHanded_of_change (C := Try.checked) own started (by kernel_rfl) Try.func4
    (ChangeSpec.witness6 (enc := enc) (C := Try.checked) false ⟨#[], #[.agg #[.int .i64 0, .int .i64 0, .int .i64 0, .int .i64 0, .int .i64 0, .slice none 0 0], .int .i64 0], []⟩ 8 (by kernel_rfl) (by kernel_rfl) (by kernel_rfl) (by kernel_rfl)) ?_
  intro W base args ds gs before hval0 hW hcnd _
  have hval : ∀ (j : Nat) t v, Try.f4.params[j]? = some t → args[j]? = some v → Value.okWide Try.prog W .any base t v := hval0
  have hW' := hW
  obtain ⟨p, q, hA0, hV, rfl, hfz, hnd⟩ := hW
  have hA : DataW.TrodAll enc Try.prog W 0 (fun _ => true) true Try.f4.params.toList args.toList ds p := hA0
  rw [Try.params4] at hA hval
  obtain ⟨v0, vs0, d0, ds0, p0, q0, hargs, rfl, rfl, h0, r0⟩ := trodAll_cons hA
  obtain ⟨v1, vs1, d1, ds1, p1, q1, rfl, rfl, rfl, h1, r1⟩ := trodAll_cons r0
  obtain ⟨rfl, rfl, rfl⟩ := trodAll_nil r1
  obtain rfl : args = #[v0, v1] := by cases args; simp_all
  obtain ⟨rfl, rfl⟩ := trodVars_none hV
  have k0 := h0
  have lt0 : ∀ x ∈ p0, x.block < W.heap.size := by obtain ⟨m, hm⟩ := k0; exact DataW.trod_lt m _ _ _ hm
  obtain ⟨k, rr, x, y, z, o, L, c, rfl, hL, hF, wk, wr, wx, wy, wz⟩ := open_raw2 (hval 0 42 v0 rfl rfl) h0
  have bk_ := bounds_i64 wk
  have br_ := bounds_i64 wr
  have bx_ := bounds_i64 wx
  have by_ := bounds_i64 wy
  have bz_ := bounds_i64 wz
  obtain ⟨a1, rfl, rfl, rfl, w1⟩ := open_int Try.underlying3 (hval 1 3 v1 rfl rfl) h1
  have b1 := bounds_i64 w1
  clear hA0 hval0
  refine (walk k rr x y z o L c a1 W hL hF (by omega) (by omega) (by omega) (by omega) (by omega) (by omega)).mono fun e W' ⟨he, bel⟩ => ?_
  subst he
  exact ⟨_, rfl, _, _, _, [], _, [], hW', trodAll_mk1 (shut_bool Try.underlying4 _), (trodAll_cons_mk (Below.trod laidOut (by kernel_rfl) (of_decide_eq_true (by kernel_rfl)) k0 bel lt0) (trodAll_cons_mk (shut_int Try.underlying3 w1) trodAll_mk0)), rfl, bel.frame _, fun h => by cases h⟩

theorem over : Rows.shapeRightRow.holds Try.pinned (OpenSpec.ofChange Rows.shapeRightSpec) :=
  OpenClaim.holds_of_wide 4 Try.f4 rfl rfl rfl rfl rfl rfl rfl ⟨rfl, rfl, rfl, rfl, rfl⟩ rfl rfl rfl rfl rfl (by kernel_rfl) Try.func4 (by kernel_rfl)
    (of_decide_eq_true (by kernel_rfl)) (by unfold Func.isWrapper; first | (rw [if_pos (by decide +kernel)]; kernel_rfl) | (rw [if_neg (by decide +kernel)]; exact ⟨rfl, rfl⟩))
    (fun os started H enc _ => lifted os started H enc)

end shapeRight

theorem shapeRight_holds : Rows.ShapeRightSaid := shapeRight.over
#print axioms shapeRight_holds
end Go.Proofs.Ytiicpdlaaklahaa
