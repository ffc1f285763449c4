/- What is placed lies within its span, part by part, and its span meets each box that holds one of its points: for every raw shape and pose. -/
import Derived.Test.YtocdompopadanaaGreatKPsL
import Derived.Test.YtocdompopadanaaGreatKPsR
import Derived.Test.YtocdompopadanaaGreatKRegW
import Derived.Test.YtocdompopadanaaGreatKOpenP
import Derived.Test.YtocdompopadanaaGreatRows
import Derived.ProofKit
import Derived.OpenShut
namespace Go.Proofs.YtocdompopadanaaGreat
namespace poseSpans
open Go.ChangeShapes Go.WideShapes Go.ChangeAt Go.RowKit Go.Shelf
set_option linter.unusedVariables false

theorem own : ownKnob Tryz.prog.godebug = none := by kernel_rfl
theorem laidOut : laidOutB Tryz.prog = true := by kernel_rfl

set_option maxHeartbeats 8000000 in
set_option maxRecDepth 100000 in
theorem walk (k rr x y z : Int) (o : Option Addr) (L : List Pt) (c : Nat) (y0 y1 y2 y3 y4 y5 y6 : Int) (w0 : World) (hL : Lies w0 (.slice o L.length c) L) (hF : ∀ p ∈ L, p.fits) (bk : -9223372036854775808 ≤ k ∧ k ≤ 9223372036854775807) (br : -9223372036854775808 ≤ rr ∧ rr ≤ 9223372036854775807) (bx : -9223372036854775808 ≤ x ∧ x ≤ 9223372036854775807) (by_ : -9223372036854775808 ≤ y ∧ y ≤ 9223372036854775807) (bz : -9223372036854775808 ≤ z ∧ z ≤ 9223372036854775807) (bq0 : -9223372036854775808 ≤ y0 ∧ y0 ≤ 9223372036854775807) (bq1 : -9223372036854775808 ≤ y1 ∧ y1 ≤ 9223372036854775807) (bq2 : -9223372036854775808 ≤ y2 ∧ y2 ≤ 9223372036854775807) (bq3 : -9223372036854775808 ≤ y3 ∧ y3 ≤ 9223372036854775807) (bq4 : -9223372036854775808 ≤ y4 ∧ y4 ≤ 9223372036854775807) (bq5 : -9223372036854775808 ≤ y5 ∧ y5 ≤ 9223372036854775807) (bq6 : -9223372036854775808 ≤ y6 ∧ y6 ≤ 9223372036854775807) :
    Calls Tryz.prog 6 #[.agg #[.int .i64 k, .int .i64 rr, .int .i64 x, .int .i64 y, .int .i64 z, .slice o L.length c], .agg #[.int .i64 y0, .int .i64 y1, .int .i64 y2, .int .i64 y3, .int .i64 y4, .int .i64 y5, .int .i64 y6]] w0 fun e w' => e = .returned (.bool true) ∧ Below w0.heap.size w0 w' := by
  have AW : Hid _ := fun W => awake6_any W
  have HR : Hid _ := fun w' (h : Lies w' (.slice o L.length c) L) => right_any k rr x y z (.slice o L.length c) L w' bk br bx by_ bz h hF
  have HQ : Hid _ := fun w' => right6_any y0 y1 y2 y3 y4 y5 y6 w' bq0 bq1 bq2 bq3 bq4 bq5 bq6
  have HL : Hid _ := hL
  clear bk br bx by_ bz hF hL bq0 bq1 bq2 bq3 bq4 bq5 bq6
  obtain ⟨W1, hW1⟩ : ∃ W1, W1 = (w0.alloc (.cells #[.int .i64 k, .int .i64 rr, .int .i64 x, .int .i64 y, .int .i64 z, .slice o L.length c] 43)).alloc (.cells #[.int .i64 y0, .int .i64 y1, .int .i64 y2, .int .i64 y3, .int .i64 y4, .int .i64 y5, .int .i64 y6] 44) := ⟨_, rfl⟩
  have B1 : Hid (Cells W1 w0.heap.size [.int .i64 k, .int .i64 rr, .int .i64 x, .int .i64 y, .int .i64 z, .slice o L.length c]) := by show Cells _ _ _; rw [hW1]; exact (Cells.new w0 [.int .i64 k, .int .i64 rr, .int .i64 x, .int .i64 y, .int .i64 z, .slice o L.length c] _).step (n_after _ _)
  have B2 : Hid (Cells W1 (w0.heap.size + 1) [.int .i64 y0, .int .i64 y1, .int .i64 y2, .int .i64 y3, .int .i64 y4, .int .i64 y5, .int .i64 y6]) := by show Cells _ _ _; rw [hW1]; have h9 := Cells.new (w0.alloc (.cells #[.int .i64 k, .int .i64 rr, .int .i64 x, .int .i64 y, .int .i64 z, .slice o L.length c] 43)) [.int .i64 y0, .int .i64 y1, .int .i64 y2, .int .i64 y3, .int .i64 y4, .int .i64 y5, .int .i64 y6] 44; rw [World.size_alloc] at h9; exact h9
  have hB : Hid (Below w0.heap.size w0 W1) := by show Below _ _ _; rw [hW1]; exact b_step (n_after _ _) (n_after _ _)
  go_enter Tryz.func6, Tryz.ntmps6
  go_wp2_with (fail)
  rw [← hW1]
  clear hW1
  obtain ⟨qb, hqb⟩ : ∃ b, b = w0.heap.size + 1 := ⟨_, rfl⟩
  rw [← hqb]
  rw [← hqb] at B2
  clear hqb
  refine Calls.mono (AW.out _) ?_
  clear AW
  rintro e V ⟨rfl, h⟩
  have B1 : Hid (Cells V w0.heap.size [.int .i64 k, .int .i64 rr, .int .i64 x, .int .i64 y, .int .i64 z, .slice o L.length c]) := Cells.step B1.out h
  have B2 : Hid (Cells V qb [.int .i64 y0, .int .i64 y1, .int .i64 y2, .int .i64 y3, .int .i64 y4, .int .i64 y5, .int .i64 y6]) := Cells.step B2.out h
  have hD : Hid _ := b_step hB.out h
  clear h hB
  have c0 := (B1.out 0 _ rfl).1
  have c1 := (B1.out 1 _ rfl).1
  have c2 := (B1.out 2 _ rfl).1
  have c3 := (B1.out 3 _ rfl).1
  have c4 := (B1.out 4 _ rfl).1
  have c5 := (B1.out 5 _ rfl).1
  go_wp2_with (fail)
  refine Calls.mono (HR.out _ (HL.out.below hD.out)) ?_
  clear HR
  rintro e V2 ⟨s, u, rfl, hRow, hGood, _⟩
  obtain ⟨ou, lu, cu, rfl⟩ := own_slice hRow.row
  have hD : Hid _ := b_step hD.out hRow.below
  have B2 : Hid (Cells V2 qb [.int .i64 y0, .int .i64 y1, .int .i64 y2, .int .i64 y3, .int .i64 y4, .int .i64 y5, .int .i64 y6]) := Cells.step B2.out hRow.below
  have HC : Hid _ := core_any s (.slice ou lu cu) V2 hRow.lies
  have HK : Hid _ := hGood
  clear hRow hGood c0 c1 c2 c3 c4 c5 B1 HL
  have HAt : Hid (∀ p ∈ axesP s, p ≠ Pt.O ∧ p.short = p) := (gd_axes HK.out).one
  have HEt : Hid (∀ p ∈ edgesP s, p ≠ Pt.O ∧ p.short = p) := (gd_edges HK.out).one
  have HPn : Hid _ := gd_pts HK.out
  have HPi : Hid _ := gd_in HK.out
  have HAl : Hid _ := gd_alen HK.out
  have hPl : (ptsP s).length < 1099511627776 := by have := gd_len HK.out; omega
  have HRd : Hid _ := HK.out.r
  have HO : Hid _ := HK.out.ok
  clear HK
  generalize axesP s = As at *
  generalize edgesP s = Es at *
  generalize ptsP s = Ps at *
  obtain ⟨sk, sr, ⟨sx, sy, sz⟩, M⟩ := s
  unfold Sh.v at *
  dsimp only at *
  go_wp2_with (fail)
  refine Calls.mono HC.out ?_
  clear HC
  rintro e V3 ⟨vp, va, ve, _, hcore⟩
  obtain ⟨rfl, hT⟩ := hcore HO.out
  have HT : Hid _ := hT
  clear hT hcore HO
  obtain ⟨op, cp, rfl, _⟩ := (Lies.of_row HT.out.rp).form
  obtain ⟨oa, ca, rfl, _⟩ := (Lies.of_row HT.out.ra).form
  obtain ⟨oe, ce, rfl, _⟩ := (Lies.of_row HT.out.re).form
  go_upto_region 3 with fail
  obtain ⟨X, hX⟩ : ∃ X : World, X = V3.alloc (.cells #[.slice op Ps.length cp, .slice oa As.length ca, .slice oe Es.length ce, .int .i64 sr] 24) := ⟨_, rfl⟩
  obtain ⟨b4, hb4⟩ : ∃ b, b = V3.heap.size := ⟨_, rfl⟩
  have CC : Hid (Cells X b4 [.slice op Ps.length cp, .slice oa As.length ca, .slice oe Es.length ce, .int .i64 sr]) := by show Cells _ _ _; rw [hX, hb4]; exact Cells.new V3 [.slice op Ps.length cp, .slice oa As.length ca, .slice oe Es.length ce, .int .i64 sr] _
  have LP : Hid (Lies X (.slice op Ps.length cp) Ps) := by show Lies _ _ _; rw [hX]; exact (Lies.of_row HT.out.rp).below (n_after _ _)
  have LA : Hid (Lies X (.slice oa As.length ca) As) := by show Lies _ _ _; rw [hX]; exact (Lies.of_row HT.out.ra).below (n_after _ _)
  have LE : Hid (Lies X (.slice oe Es.length ce) Es) := by show Lies _ _ _; rw [hX]; exact (Lies.of_row HT.out.re).below (n_after _ _)
  have CQ : Hid (Cells X qb [.int .i64 y0, .int .i64 y1, .int .i64 y2, .int .i64 y3, .int .i64 y4, .int .i64 y5, .int .i64 y6]) := by show Cells _ _ _; rw [hX]; exact (Cells.step B2.out HT.out.below).step (n_after _ _)
  have hD : Hid (Below w0.heap.size w0 X) := by show Below _ _ _; rw [hX]; exact b_step (b_step hD.out HT.out.below) (n_after _ _)
  rw [← hX, ← hb4]
  clear hX hb4 HT B2
  go_cut [8, 9] from 14 to 139 (fun s8 s9 wx => ∃ (Px2 Ax2 Ex2 : List Pt) (o5_ : Option Addr) (c5_ : Nat) (o9_ : Option Addr) (c9_ : Nat) (o13_ : Option Addr) (c13_ : Nat) (b8 : Nat), s8 = .pointer (some ⟨b8, 0, none⟩) ∧ s9 = .bool true ∧ Lies wx (.slice o5_ Px2.length c5_) Px2 ∧ Lies wx (.slice o9_ Ax2.length c9_) Ax2 ∧ Lies wx (.slice o13_ Ex2.length c13_) Ex2 ∧ Cells wx b8 [.slice o5_ Px2.length c5_, .slice o9_ Ax2.length c9_, .slice o13_ Ex2.length c13_, .int .i64 sr] ∧ Px2.length = Ps.length ∧ (∀ p ∈ Px2, p.inB 8388608 = true) ∧ Below X.heap.size X wx)
  case first =>
    refine RV.region_by2 (fun j v w => match j with | 0 => v = .agg #[.slice op Ps.length cp, .slice oa As.length ca, .slice oe Es.length ce, .int .i64 sr] | 1 => v = .agg #[.int .i64 y0, .int .i64 y1, .int .i64 y2, .int .i64 y3, .int .i64 y4, .int .i64 y5, .int .i64 y6] | 2 => (fun v w => ∃ (t : Pt) (q : Q4), v = poseV t q ∧ t.inB 4398046511104 = true ∧ WM.Whole q.w q.x q.y q.z) v w | 3 => True | 4 => True | 5 => True | 6 => v = .bool true | 7 => True | 8 => True | 9 => v = .bool true | _ => True) (fun γ L w => SG X sr Ps As Es (γ 2) (γ 3) (γ 4) (γ 5) (γ 7) (L 2) (L 3) (L 4) (L 5) (L 7) (L 8) w) (by kernel_rfl) (by kernel_rfl) (by kernel_rfl) (by kernel_rfl) ?_ ?_ ?_
    · have b9 : Below X.heap.size X X.drew := (Below.refl _ _).drew; exact ⟨b9, (fun e => by cases e), (fun e => by cases e), (fun e => by cases e), (fun e => by cases e)⟩
    · generalize hD : dstOf _ = D
      generalize hWA : waitsFor _ = WA
      generalize hZ : Act.mk _ _ = Z
      obtain ⟨R, hR⟩ : ∃ R : Nat → Value → World → Prop, R = (fun j v w => match j with | 0 => v = .agg #[.slice op Ps.length cp, .slice oa As.length ca, .slice oe Es.length ce, .int .i64 sr] | 1 => v = .agg #[.int .i64 y0, .int .i64 y1, .int .i64 y2, .int .i64 y3, .int .i64 y4, .int .i64 y5, .int .i64 y6] | 2 => (fun v w => ∃ (t : Pt) (q : Q4), v = poseV t q ∧ t.inB 4398046511104 = true ∧ WM.Whole q.w q.x q.y q.z) v w | 3 => True | 4 => True | 5 => True | 6 => v = .bool true | 7 => True | 8 => True | 9 => v = .bool true | _ => True) := ⟨_, rfl⟩
      rw [← hR]
      have d0 : D 0 = some 22 := by rw [← hD]; rfl
      have d1 : D 1 = some 23 := by rw [← hD]; rfl
      have d2 : D 2 = some 24 := by rw [← hD]; rfl
      have d3 : D 3 = some 25 := by rw [← hD]; rfl
      have d4 : D 4 = some 21 := by rw [← hD]; rfl
      have d5 : D 5 = some 26 := by rw [← hD]; rfl
      have d6 : D 6 = some 27 := by rw [← hD]; rfl
      have d7 : D 7 = some 8 := by rw [← hD]; rfl
      have d9 : D 9 = some 9 := by rw [← hD]; rfl
      have r0 : ∀ v w, R 0 v w = (v = .agg #[.slice op Ps.length cp, .slice oa As.length ca, .slice oe Es.length ce, .int .i64 sr]) := fun v w => by rw [hR]; rfl
      have r1 : ∀ v w, R 1 v w = (v = .agg #[.int .i64 y0, .int .i64 y1, .int .i64 y2, .int .i64 y3, .int .i64 y4, .int .i64 y5, .int .i64 y6]) := fun v w => by rw [hR]; rfl
      have r2 : ∀ v w, R 2 v w = ((fun v w => ∃ (t : Pt) (q : Q4), v = poseV t q ∧ t.inB 4398046511104 = true ∧ WM.Whole q.w q.x q.y q.z) v w) := fun v w => by rw [hR]; rfl
      have r3 : ∀ v w, R 3 v w = (True) := fun v w => by rw [hR]; rfl
      have r4 : ∀ v w, R 4 v w = (True) := fun v w => by rw [hR]; rfl
      have r5 : ∀ v w, R 5 v w = (True) := fun v w => by rw [hR]; rfl
      have r6 : ∀ v w, R 6 v w = (v = .bool true) := fun v w => by rw [hR]; rfl
      have r7 : ∀ v w, R 7 v w = (True) := fun v w => by rw [hR]; rfl
      have r8 : ∀ v w, R 8 v w = (True) := fun v w => by rw [hR]; rfl
      have r9 : ∀ v w, R 9 v w = (v = .bool true) := fun v w => by rw [hR]; rfl
      have E3 : ∀ (γ : Nat → Value) (L : Nat → Bool) (a : Act) (w : World), RV.Held D WA R (fun γ L w => SG X sr Ps As Es (γ 2) (γ 3) (γ 4) (γ 5) (γ 7) (L 2) (L 3) (L 4) (L 5) (L 7) (L 8) w) Z γ L a w → a.tmps[3]? = some (.pointer (some ⟨qb, 0, none⟩)) := fun γ L a w hH => (hH.rest 3 (by rw [← hD]; exact RV.dst_free (by kernel_rfl))).trans (by rw [← hZ]; rfl)
      have E6 : ∀ (γ : Nat → Value) (L : Nat → Bool) (a : Act) (w : World), RV.Held D WA R (fun γ L w => SG X sr Ps As Es (γ 2) (γ 3) (γ 4) (γ 5) (γ 7) (L 2) (L 3) (L 4) (L 5) (L 7) (L 8) w) Z γ L a w → a.tmps[6]? = some (.pointer (some ⟨b4, 0, none⟩)) := fun γ L a w hH => (hH.rest 6 (by rw [← hD]; exact RV.dst_free (by kernel_rfl))).trans (by rw [← hZ]; rfl)
      have K : ∀ j v w w', R j v w → R j v w' := by rw [hR]; intro j v w w' h; exact h
      have A_4_3 : WA 4 3 := by rw [← hWA]; exact ⟨_, rfl, ⟨3, .data⟩, by simp, rfl, rfl⟩
      have A_5_4 : WA 5 4 := by rw [← hWA]; exact ⟨_, rfl, ⟨4, .data⟩, by simp, rfl, rfl⟩
      have A_8_5 : WA 8 5 := by rw [← hWA]; exact ⟨_, rfl, ⟨5, .data⟩, by simp, rfl, rfl⟩
      have A_8_7 : WA 8 7 := by rw [← hWA]; exact ⟨_, rfl, ⟨7, .data⟩, by simp, rfl, rfl⟩
      clear hD hWA hZ hR
      refine RV.AllDo.cons 0 (RV.does_pure (fun γ v L w hl h => by rw [RV.upd_ne γ (i := 0) (j := 2) _ (by decide), RV.upd_ne γ (i := 0) (j := 3) _ (by decide), RV.upd_ne γ (i := 0) (j := 4) _ (by decide), RV.upd_ne γ (i := 0) (j := 5) _ (by decide), RV.upd_ne γ (i := 0) (j := 7) _ (by decide), RV.more_ne (L := L) (i := 0) (j := 2) (by decide), RV.more_ne (L := L) (i := 0) (j := 3) (by decide), RV.more_ne (L := L) (i := 0) (j := 4) (by decide), RV.more_ne (L := L) (i := 0) (j := 5) (by decide), RV.more_ne (L := L) (i := 0) (j := 7) (by decide), RV.more_ne (L := L) (i := 0) (j := 8) (by decide)]; exact h) (fun γ L a w hH hl hA => by have e0 := E6 γ L a w hH; have wz0 := (Cells.step CC.out hH.glob.be 0 _ rfl).1; have wz1 := (Cells.step CC.out hH.glob.be 1 _ rfl).1; have wz2 := (Cells.step CC.out hH.glob.be 2 _ rfl).1; have wz3 := (Cells.step CC.out hH.glob.be 3 _ rfl).1; exact ⟨.agg #[.slice op Ps.length cp, .slice oa As.length ca, .slice oe Es.length ce, .int .i64 sr], by simp [execOp, go_sem, e0, wz0, wz1, wz2, wz3], (r0 _ _).mpr rfl⟩)) ?_
      refine RV.AllDo.cons 1 (RV.does_pure (fun γ v L w hl h => by rw [RV.upd_ne γ (i := 1) (j := 2) _ (by decide), RV.upd_ne γ (i := 1) (j := 3) _ (by decide), RV.upd_ne γ (i := 1) (j := 4) _ (by decide), RV.upd_ne γ (i := 1) (j := 5) _ (by decide), RV.upd_ne γ (i := 1) (j := 7) _ (by decide), RV.more_ne (L := L) (i := 1) (j := 2) (by decide), RV.more_ne (L := L) (i := 1) (j := 3) (by decide), RV.more_ne (L := L) (i := 1) (j := 4) (by decide), RV.more_ne (L := L) (i := 1) (j := 5) (by decide), RV.more_ne (L := L) (i := 1) (j := 7) (by decide), RV.more_ne (L := L) (i := 1) (j := 8) (by decide)]; exact h) (fun γ L a w hH hl hA => by have e0 := E3 γ L a w hH; have wz0 := (Cells.step CQ.out hH.glob.be 0 _ rfl).1; have wz1 := (Cells.step CQ.out hH.glob.be 1 _ rfl).1; have wz2 := (Cells.step CQ.out hH.glob.be 2 _ rfl).1; have wz3 := (Cells.step CQ.out hH.glob.be 3 _ rfl).1; have wz4 := (Cells.step CQ.out hH.glob.be 4 _ rfl).1; have wz5 := (Cells.step CQ.out hH.glob.be 5 _ rfl).1; have wz6 := (Cells.step CQ.out hH.glob.be 6 _ rfl).1; exact ⟨.agg #[.int .i64 y0, .int .i64 y1, .int .i64 y2, .int .i64 y3, .int .i64 y4, .int .i64 y5, .int .i64 y6], by simp [execOp, go_sem, e0, wz0, wz1, wz2, wz3, wz4, wz5, wz6], (r1 _ _).mpr rfl⟩)) ?_
      refine RV.AllDo.cons 2 (RV.does_call (fun γ L a w hH hl hA => by have l0 : L 1 = true := hA ⟨1, .data⟩ (by simp) rfl; have e0 := hH.slot 1 23 d1 l0; have g0 := hH.holds 1 l0; rw [r1] at g0; rw [g0] at e0; refine ⟨18, #[.agg #[.int .i64 y0, .int .i64 y1, .int .i64 y2, .int .i64 y3, .int .i64 y4, .int .i64 y5, .int .i64 y6]], by simp [go_sem, e0], Calls.mono (HQ.out w) ?_⟩; rintro e w2 ⟨t, q, rfl, ht, hq, hb⟩; refine ⟨_, rfl, (r2 _ _).mpr ⟨t, q, rfl, ht, hq⟩, fun j v _ h => K j v _ _ h, ?_⟩; rw [RV.upd_ne γ (i := 2) (j := 3) _ (by decide), RV.upd_ne γ (i := 2) (j := 4) _ (by decide), RV.upd_ne γ (i := 2) (j := 5) _ (by decide), RV.upd_ne γ (i := 2) (j := 7) _ (by decide), RV.more_ne (L := L) (i := 2) (j := 3) (by decide), RV.more_ne (L := L) (i := 2) (j := 4) (by decide), RV.more_ne (L := L) (i := 2) (j := 5) (by decide), RV.more_ne (L := L) (i := 2) (j := 7) (by decide), RV.more_ne (L := L) (i := 2) (j := 8) (by decide)]; have h9 := hH.glob.step hb; exact ⟨h9.be, h9.t3, h9.m4, h9.m5, h9.pd⟩)) ?_
      refine RV.AllDo.cons 3 (RV.does_call (fun γ L a w hH hl hA => by have l0 : L 0 = true := hA ⟨0, .data⟩ (by simp) rfl; have e0 := hH.slot 0 22 d0 l0; have g0 := hH.holds 0 l0; rw [r0] at g0; rw [g0] at e0; have l1 : L 2 = true := hA ⟨2, .data⟩ (by simp) rfl; have e1 := hH.slot 2 24 d2 l1; have g1 := hH.holds 2 l1; rw [r2] at g1; have h4 : L 4 = false := RV.not_yet hH A_4_3 hl; have h5 : L 5 = false := RV.not_yet hH A_5_4 h4; have h8 : L 8 = false := RV.not_yet hH A_8_5 h5; obtain ⟨t, q, hv1, ht, hq⟩ := g1; rw [hv1] at e1; refine ⟨8, #[.agg #[.slice op Ps.length cp, .slice oa As.length ca, .slice oe Es.length ce, .int .i64 sr], poseV t q], by simp [go_sem, e0, e1], Calls.mono (place_right t q (inB_mono ht (by decide)) hq Ps As Es HPn.out HPi.out HAt.out HEt.out hPl HAl.out.1 HAl.out.2 sr _ _ _ _ _ _ w (LP.out.below hH.glob.be) (LA.out.below hH.glob.be) (LE.out.below hH.glob.be)) ?_⟩; rintro e w2 ⟨Px2, Ax2, Ex2, vp, va, ve, rfl, hT, hC⟩; refine ⟨_, rfl, (r3 _ _).mpr trivial, fun j v _ h => K j v _ _ h, ?_⟩; rw [RV.upd_ne γ (i := 3) (j := 2) _ (by decide), RV.upd_ne γ (i := 3) (j := 4) _ (by decide), RV.upd_ne γ (i := 3) (j := 5) _ (by decide), RV.upd_ne γ (i := 3) (j := 7) _ (by decide), RV.more_ne (L := L) (i := 3) (j := 2) (by decide), RV.more_ne (L := L) (i := 3) (j := 4) (by decide), RV.more_ne (L := L) (i := 3) (j := 5) (by decide), RV.more_ne (L := L) (i := 3) (j := 7) (by decide), RV.more_ne (L := L) (i := 3) (j := 8) (by decide), RV.upd_self, RV.more_self]; exact hH.glob.got h4 h5 h8 hT hC)) ?_
      refine RV.AllDo.cons 4 (RV.does_step (fun γ L a w hH hl hA => by have l0 : L 3 = true := hA ⟨3, .data⟩ (by simp) rfl; have e0 := hH.slot 3 25 d3 l0; have g0 := hH.holds 3 l0; rw [r3] at g0; exact ⟨γ 3, w, by simp [execOp, go_sem, e0], (r4 _ _).mpr trivial, fun j v _ h => K j v _ _ h, by rw [RV.upd_ne γ (i := 4) (j := 2) _ (by decide), RV.upd_ne γ (i := 4) (j := 3) _ (by decide), RV.upd_ne γ (i := 4) (j := 5) _ (by decide), RV.upd_ne γ (i := 4) (j := 7) _ (by decide), RV.more_ne (L := L) (i := 4) (j := 2) (by decide), RV.more_ne (L := L) (i := 4) (j := 3) (by decide), RV.more_ne (L := L) (i := 4) (j := 5) (by decide), RV.more_ne (L := L) (i := 4) (j := 7) (by decide), RV.more_ne (L := L) (i := 4) (j := 8) (by decide), RV.upd_self]; exact ⟨hH.glob.be, hH.glob.t3, fun _ => rfl, hH.glob.m5, hH.glob.pd⟩⟩)) ?_
      refine RV.AllDo.cons 5 (RV.does_step (fun γ L a w hH hl hA => by have l0 : L 4 = true := hA ⟨4, .data⟩ (by simp) rfl; have e0 := hH.slot 4 21 d4 l0; have g0 := hH.holds 4 l0; rw [r4] at g0; have l3 : L 3 = true := hH.closed 4 3 A_4_3 l0; obtain ⟨Px2, Ax2, Ex2, vp, va, ve, t, q, x1, x2, x3⟩ := hH.glob.t3 l3; have x4 := hH.glob.m4 l0; rw [x4, x1] at e0; refine ⟨.agg #[vp, va, ve, .int .i64 sr], w, by simp [execOp, go_sem, e0], (r5 _ _).mpr trivial, fun j v _ h => K j v _ _ h, ?_⟩; rw [RV.upd_ne γ (i := 5) (j := 2) _ (by decide), RV.upd_ne γ (i := 5) (j := 3) _ (by decide), RV.upd_ne γ (i := 5) (j := 4) _ (by decide), RV.upd_ne γ (i := 5) (j := 7) _ (by decide), RV.more_ne (L := L) (i := 5) (j := 2) (by decide), RV.more_ne (L := L) (i := 5) (j := 3) (by decide), RV.more_ne (L := L) (i := 5) (j := 4) (by decide), RV.more_ne (L := L) (i := 5) (j := 7) (by decide), RV.more_ne (L := L) (i := 5) (j := 8) (by decide), RV.upd_self]; exact ⟨hH.glob.be, hH.glob.t3, hH.glob.m4, fun _ => by rw [x1]; rfl, hH.glob.pd⟩)) ?_
      refine RV.AllDo.cons 6 (RV.does_step (fun γ L a w hH hl hA => by have l0 : L 4 = true := hA ⟨4, .data⟩ (by simp) rfl; have e0 := hH.slot 4 21 d4 l0; have g0 := hH.holds 4 l0; rw [r4] at g0; have l3 : L 3 = true := hH.closed 4 3 A_4_3 l0; obtain ⟨Px2, Ax2, Ex2, vp, va, ve, t, q, x1, x2, x3⟩ := hH.glob.t3 l3; have x4 := hH.glob.m4 l0; rw [x4, x1] at e0; refine ⟨.bool true, w, by simp [execOp, go_sem, e0], (r6 _ _).mpr rfl, fun j v _ h => K j v _ _ h, ?_⟩; rw [RV.upd_ne γ (i := 6) (j := 2) _ (by decide), RV.upd_ne γ (i := 6) (j := 3) _ (by decide), RV.upd_ne γ (i := 6) (j := 4) _ (by decide), RV.upd_ne γ (i := 6) (j := 5) _ (by decide), RV.upd_ne γ (i := 6) (j := 7) _ (by decide), RV.more_ne (L := L) (i := 6) (j := 2) (by decide), RV.more_ne (L := L) (i := 6) (j := 3) (by decide), RV.more_ne (L := L) (i := 6) (j := 4) (by decide), RV.more_ne (L := L) (i := 6) (j := 5) (by decide), RV.more_ne (L := L) (i := 6) (j := 7) (by decide), RV.more_ne (L := L) (i := 6) (j := 8) (by decide)]; exact hH.glob)) ?_
      refine RV.AllDo.cons 7 (RV.does_step (fun γ L a w hH hl hA => by have h8 : L 8 = false := RV.not_yet hH A_8_7 hl; refine ⟨.pointer (some ⟨w.heap.size, 0, none⟩), w.alloc (.cells #[.slice none 0 0, .slice none 0 0, .slice none 0 0, .int .i64 0] 24), by simp [execOp, go_sem], (r7 _ _).mpr trivial, fun j v _ h => K j v _ _ h, ?_⟩; rw [RV.upd_ne γ (i := 7) (j := 2) _ (by decide), RV.upd_ne γ (i := 7) (j := 3) _ (by decide), RV.upd_ne γ (i := 7) (j := 4) _ (by decide), RV.upd_ne γ (i := 7) (j := 5) _ (by decide), RV.more_ne (L := L) (i := 7) (j := 2) (by decide), RV.more_ne (L := L) (i := 7) (j := 3) (by decide), RV.more_ne (L := L) (i := 7) (j := 4) (by decide), RV.more_ne (L := L) (i := 7) (j := 5) (by decide), RV.more_ne (L := L) (i := 7) (j := 8) (by decide), RV.upd_self, RV.more_self]; exact hH.glob.made h8)) ?_
      refine RV.AllDo.cons 8 (RV.does_store (fun γ L a w hH hl hA => by have l0 : L 7 = true := hA ⟨7, .data⟩ (by simp) rfl; have e0 := hH.slot 7 8 d7 l0; have g0 := hH.holds 7 l0; rw [r7] at g0; have l1 : L 5 = true := hA ⟨5, .data⟩ (by simp) rfl; have e1 := hH.slot 5 26 d5 l1; have g1 := hH.holds 5 l1; rw [r5] at g1; have hG := hH.glob; have m4 : L 4 = true := hH.closed 5 4 A_5_4 l1; have m3 : L 3 = true := hH.closed 4 3 A_4_3 m4; rw [m3, l0] at hG; obtain ⟨Px2, Ax2, Ex2, vp, va, ve, t, q, x1, x2, x3⟩ := hG.t3 rfl; obtain ⟨b, cs, k1, k2, k3, k4, _⟩ := hG.pd rfl; have x5 := hG.m5 l1; rw [x1] at x5; obtain ⟨o5_, c5_, rfl⟩ := rowp_form x2.rp; obtain ⟨o9_, c9_, rfl⟩ := rowp_form x2.ra; obtain ⟨o13_, c13_, rfl⟩ := rowp_form x2.re; rw [k1] at e0; rw [x5] at e1; have q9 := hG.fill k1 k2 k3 k4 x1; obtain ⟨q0, q1, q2, q3, rfl⟩ := arr4' k4; have wz0 : w.cell? ⟨b, 0, none⟩ = some q0 := (by simp [World.cell?, k3]); have wz1 : w.cell? ⟨b, 1, none⟩ = some q1 := (by simp [World.cell?, k3]); have wz2 : w.cell? ⟨b, 2, none⟩ = some q2 := (by simp [World.cell?, k3]); have wz3 : w.cell? ⟨b, 3, none⟩ = some q3 := (by simp [World.cell?, k3]); have zf : ∀ o, w.frozen? ⟨b, o, none⟩ = false := fun o => (by simp [World.frozen?, k3]); refine ⟨_, by simp [execOp, go_sem, e0, e1, cp0, wz0, wz1, wz2, wz3, zf]; rfl, (r8 _ _).mpr trivial, fun j v _ h => K j v _ _ h, ?_⟩; rw [RV.upd_ne γ (i := 8) (j := 2) _ (by decide), RV.upd_ne γ (i := 8) (j := 3) _ (by decide), RV.upd_ne γ (i := 8) (j := 4) _ (by decide), RV.upd_ne γ (i := 8) (j := 5) _ (by decide), RV.upd_ne γ (i := 8) (j := 7) _ (by decide), RV.more_ne (L := L) (i := 8) (j := 2) (by decide), RV.more_ne (L := L) (i := 8) (j := 3) (by decide), RV.more_ne (L := L) (i := 8) (j := 4) (by decide), RV.more_ne (L := L) (i := 8) (j := 5) (by decide), RV.more_ne (L := L) (i := 8) (j := 7) (by decide), RV.more_self, m3, l0]; exact q9)) ?_
      refine RV.AllDo.cons 9 (RV.does_pure (fun γ v L w hl h => by rw [RV.upd_ne γ (i := 9) (j := 2) _ (by decide), RV.upd_ne γ (i := 9) (j := 3) _ (by decide), RV.upd_ne γ (i := 9) (j := 4) _ (by decide), RV.upd_ne γ (i := 9) (j := 5) _ (by decide), RV.upd_ne γ (i := 9) (j := 7) _ (by decide), RV.more_ne (L := L) (i := 9) (j := 2) (by decide), RV.more_ne (L := L) (i := 9) (j := 3) (by decide), RV.more_ne (L := L) (i := 9) (j := 4) (by decide), RV.more_ne (L := L) (i := 9) (j := 5) (by decide), RV.more_ne (L := L) (i := 9) (j := 7) (by decide), RV.more_ne (L := L) (i := 9) (j := 8) (by decide)]; exact h) (fun γ L a w hH hl hA => by have l0 : L 6 = true := hA ⟨6, .data⟩ (by simp) rfl; have e0 := hH.slot 6 27 d6 l0; have g0 := hH.holds 6 l0; rw [r6] at g0; rw [g0] at e0; exact ⟨.bool true, by simp [execOp, go_sem, e0], (r9 _ _).mpr rfl⟩)) ?_
      exact RV.AllDo.nil
    · intro γ a5 w5 L9 hL hLo hH
      have ha := RV.held_act hH hL (by kernel_rfl) (by kernel_rfl)
      have hG := hH.glob
      rw [hL 2 (by decide), hL 3 (by decide), hL 4 (by decide), hL 5 (by decide), hL 7 (by decide), hL 8 (by decide)] at hG
      obtain ⟨Px2, Ax2, Ex2, vp, va, ve, t, q, x1, x2, x3⟩ := hG.t3 rfl
      obtain ⟨b8, cs, k1, k2, k3, k4, k5⟩ := hG.pd rfl
      have e6 : γ 6 = .bool true := hH.holds 6 (hL 6 (by decide))
      have e9_ : γ 9 = .bool true := hH.holds 9 (hL 9 (by decide))
      rw [(k5 rfl).2 _ _ _ x1] at k3
      rw [ha]
      clear ha hH hL hLo k5
      simp only [RV.putAll, Act.put, List.setIfInBounds_toArray, List.set_cons_zero, List.set_cons_succ, Nat.zero_add, Nat.reduceAdd]
      rw [k1, e9_, e6]
      have C8 : Cells w5 b8 [vp, va, ve, .int .i64 sr] := fun i v e => ⟨by simp [World.cell?, k3]; exact e, by simp [World.frozen?, k3]⟩
      obtain ⟨o5_, c5_, rfl⟩ := rowp_form x2.rp
      obtain ⟨o9_, c9_, rfl⟩ := rowp_form x2.ra
      obtain ⟨o13_, c13_, rfl⟩ := rowp_form x2.re
      have hB5 := hG.be
      clear hG k1 k3 k4 x1
      go_wp2_with (fail)
      go_meet
      case rel => exact ⟨Px2, Ax2, Ex2, o5_, c5_, o9_, c9_, o13_, c13_, b8, rfl, rfl, Lies.of_row x2.rp, Lies.of_row x2.ra, Lies.of_row x2.re, C8, x3.len, x3.near, hB5⟩
  case rest =>
    obtain ⟨Px2, Ax2, Ex2, o5_, c5_, o9_, c9_, o13_, c13_, b8, rfl, rfl, lp, la, le, C8, hlen, hnear, hb⟩ := hcut
    have HS : Hid (Calls Tryz.prog 14 #[.agg #[.slice o5_ Px2.length c5_, .slice o9_ Ax2.length c9_, .slice o13_ Ex2.length c13_, .int .i64 sr]] wc fun e W => e = .returned (spanP Px2 sr).v ∧ Below wc.heap.size wc W) := span_any Px2 Ax2 Ex2 sr _ _ _ wc lp la le
    have HIN : Hid (∀ i, i < Px2.length → InSpan (spanP Px2 sr) (pt Px2 i) sr) := fun i hi => span_in (by rw [hlen]; exact HPn.out) hnear HRd.out hi
    generalize spanP Px2 sr = bx at *
    obtain ⟨⟨lx, ly, lz⟩, ⟨hx, hy, hz⟩⟩ := bx
    have CCc : Hid _ := Cells.step CC.out hb
    have hDc : Hid _ := b_step hD.out hb
    have LPc : Hid _ := lp
    have C8c : Hid _ := C8
    clear hb CC hD lp la le C8 LP LA LE CQ HQ HPi HAt HEt HAl hPl HRd HPn hnear
    have HLen : Hid _ := hlen
    clear hlen
    have d0 := (C8c.out 0 _ rfl).1
    have d1 := (C8c.out 1 _ rfl).1
    have d2 := (C8c.out 2 _ rfl).1
    have d3 := (C8c.out 3 _ rfl).1
    unfold Bx.v at HS
    dsimp only at HS
    go_wp2_with (fail)
    refine Calls.mono HS.out ?_
    clear HS d0 d1 d2 d3
    rintro e V5 ⟨rfl, hb⟩
    go_upto_region 7 with fail
    obtain ⟨Y, hY⟩ : ∃ Y : World, Y = V5.alloc (.cells #[.int .i64 lx, .int .i64 ly, .int .i64 lz, .int .i64 hx, .int .i64 hy, .int .i64 hz] 39) := ⟨_, rfl⟩
    obtain ⟨sb, hsb⟩ : ∃ b, b = V5.heap.size := ⟨_, rfl⟩
    have b9 : Below V5.heap.size V5 Y := by rw [hY]; exact n_after _ _
    have CS : Hid (Cells Y sb [.int .i64 lx, .int .i64 ly, .int .i64 lz, .int .i64 hx, .int .i64 hy, .int .i64 hz]) := by show Cells _ _ _; rw [hY, hsb]; exact Cells.new _ _ _
    rw [← hY, ← hsb]
    have b10 := b_step hb b9
    have CC : Hid _ := Cells.step CCc.out b10
    have C8 : Hid _ := Cells.step C8c.out b10
    have LP : Hid _ := LPc.out.below b10
    have hD : Hid _ := b_step hDc.out b10
    clear hY hsb b9 b10 hb CCc C8c LPc hDc
    go_wp2_with (fail)
    go_loopg [11] Px2.length (fun gm s wr => ∃ i : Nat, s = .int .i64 (i : Int) ∧ i ≤ Px2.length ∧ gm = Px2.length - i ∧ Hid (Below Y.heap.size Y wr))
    case atStart => exact ⟨0, rfl, Nat.zero_le _, rfl, Below.refl _ _⟩
    case round =>
      obtain ⟨i, rfl, hi, hgm, HB⟩ := hrel
      have HG : Hid _ := hgm
      clear hgm
      have dd0 := (Cells.step C8.out HB.out 0 _ rfl).1
      by_cases hit : i < Px2.length
      · obtain ⟨o7, c7, e7, _, k9, hc7⟩ := (LP.out.below HB.out).form
        simp only [Value.slice.injEq, true_and] at e7
        obtain ⟨rfl, rfl⟩ := e7
        obtain ⟨g7, f7, rfl, x0, x1, x2⟩ := hc7 i hit
        obtain ⟨vo0, vo1, vo2, vo3, vo4, vo5, vm, vj⟩ := HIN.out i hit
        dsimp only at vo0 vo1 vo2 vo3 vo4 vo5
        have HM : Hid _ := fun w' => meet_any ⟨⟨lx, ly, lz⟩, ⟨hx, hy, hz⟩⟩ ⟨pt Px2 i, pt Px2 i⟩ w'
        have HJ : Hid _ := fun w' => join_any ⟨⟨lx, ly, lz⟩, ⟨hx, hy, hz⟩⟩ ⟨pt Px2 i, pt Px2 i⟩ w'
        rw [vm] at HM
        rw [vj] at HJ
        unfold Bx.v at HM HJ
        dsimp only at HM HJ
        clear vm vj hc7
        generalize (pt Px2 i).x = px at *
        generalize (pt Px2 i).y = py at *
        generalize (pt Px2 i).z = pz at *
        obtain ⟨ro0, er0⟩ : ∃ ro0, IntKind.i64.wrap (px - sr) = ro0 := ⟨_, rfl⟩
        obtain ⟨ro1, er1⟩ : ∃ ro0, IntKind.i64.wrap (px + sr) = ro0 := ⟨_, rfl⟩
        obtain ⟨ro2, er2⟩ : ∃ ro0, IntKind.i64.wrap (py - sr) = ro0 := ⟨_, rfl⟩
        obtain ⟨ro3, er3⟩ : ∃ ro0, IntKind.i64.wrap (py + sr) = ro0 := ⟨_, rfl⟩
        obtain ⟨ro4, er4⟩ : ∃ ro0, IntKind.i64.wrap (pz - sr) = ro0 := ⟨_, rfl⟩
        obtain ⟨ro5, er5⟩ : ∃ ro0, IntKind.i64.wrap (pz + sr) = ro0 := ⟨_, rfl⟩
        rw [er0] at vo0
        rw [er1] at vo1
        rw [er2] at vo2
        rw [er3] at vo3
        rw [er4] at vo4
        rw [er5] at vo5
        go_upto_region 11 with fail
        obtain ⟨X1, hX1⟩ : ∃ X : World, X = wr.alloc (.cells #[.int .i64 px, .int .i64 py, .int .i64 pz] 31) := ⟨_, rfl⟩
        obtain ⟨pb, hpb⟩ : ∃ b, b = wr.heap.size := ⟨_, rfl⟩
        have b9 : Below wr.heap.size wr X1 := by rw [hX1]; exact n_after _ _
        have BP : Hid (Cells X1 pb [.int .i64 px, .int .i64 py, .int .i64 pz]) := by show Cells _ _ _; rw [hX1, hpb]; exact Cells.new _ _ _
        rw [← hX1, ← hpb]
        have HB1 : Hid _ := b_step HB.out b9
        clear hX1 hpb b9 x0 x1 x2 dd0
        have p0 := (BP.out 0 _ rfl).1
        have p1 := (BP.out 1 _ rfl).1
        have p2 := (BP.out 2 _ rfl).1
        go_upto_region 12 with fail
        clear p0 p1 p2
        obtain ⟨X2, hX2⟩ : ∃ X : World, X = X1.alloc (.cells #[.int .i64 px, .int .i64 py, .int .i64 pz, .int .i64 px, .int .i64 py, .int .i64 pz] 39) := ⟨_, rfl⟩
        obtain ⟨tb, htb⟩ : ∃ b, b = X1.heap.size := ⟨_, rfl⟩
        have b9 : Below X1.heap.size X1 X2 := by rw [hX2]; exact n_after _ _
        have CT2 : Hid (Cells X2 tb [.int .i64 px, .int .i64 py, .int .i64 pz, .int .i64 px, .int .i64 py, .int .i64 pz]) := by show Cells _ _ _; rw [hX2, htb]; exact Cells.new _ _ _
        rw [← hX2, ← htb]
        have HB2 : Hid _ := b_step HB1.out b9
        have BP2 : Hid _ := Cells.step BP.out b9
        have C82 : Hid _ := Cells.step C8.out HB2.out
        have CS2 : Hid _ := Cells.step CS.out HB2.out
        clear hX2 htb b9 BP HB1
        have cp0_ := (BP2.out 0 _ rfl).1
        have cp1_ := (BP2.out 1 _ rfl).1
        have cp2_ := (BP2.out 2 _ rfl).1
        have cr3_ := (C82.out 3 _ rfl).1
        have cs0_ := (CS2.out 0 _ rfl).1
        have cs1_ := (CS2.out 1 _ rfl).1
        have cs2_ := (CS2.out 2 _ rfl).1
        have cs3_ := (CS2.out 3 _ rfl).1
        have cs4_ := (CS2.out 4 _ rfl).1
        have cs5_ := (CS2.out 5 _ rfl).1
        have ct0_ := (CT2.out 0 _ rfl).1
        have ct1_ := (CT2.out 1 _ rfl).1
        have ct2_ := (CT2.out 2 _ rfl).1
        have ct3_ := (CT2.out 3 _ rfl).1
        have ct4_ := (CT2.out 4 _ rfl).1
        have ct5_ := (CT2.out 5 _ rfl).1
        go_cut [131] from 52 to 131 (fun s9 wx => s9 = .bool false ∧ Hid (Below Y.heap.size Y wx))
        case first =>
          refine RV.region_by (fun j v w => match j with | 0 => v = .pointer (some ⟨pb, 0, none⟩) | 1 => v = .int .i64 (px) | 2 => v = .pointer (some ⟨b8, 3, none⟩) | 3 => v = .int .i64 (sr) | 4 => v = .int .i64 (ro0) | 5 => v = .pointer (some ⟨sb, 0, none⟩) | 6 => v = .pointer (some ⟨sb, 0, none⟩) | 7 => v = .int .i64 (lx) | 8 => v = .bool (false) | 9 => v = .bool (false) | 10 => v = .pointer (some ⟨pb, 0, none⟩) | 11 => v = .int .i64 (px) | 12 => v = .pointer (some ⟨b8, 3, none⟩) | 13 => v = .int .i64 (sr) | 14 => v = .int .i64 (ro1) | 15 => v = .pointer (some ⟨sb, 3, none⟩) | 16 => v = .pointer (some ⟨sb, 3, none⟩) | 17 => v = .int .i64 (hx) | 18 => v = .bool (false) | 19 => v = .bool (false) | 20 => v = .bool (false) | 21 => v = .pointer (some ⟨pb, 1, none⟩) | 22 => v = .int .i64 (py) | 23 => v = .pointer (some ⟨b8, 3, none⟩) | 24 => v = .int .i64 (sr) | 25 => v = .int .i64 (ro2) | 26 => v = .pointer (some ⟨sb, 0, none⟩) | 27 => v = .pointer (some ⟨sb, 1, none⟩) | 28 => v = .int .i64 (ly) | 29 => v = .bool (false) | 30 => v = .bool (false) | 31 => v = .bool (false) | 32 => v = .pointer (some ⟨pb, 1, none⟩) | 33 => v = .int .i64 (py) | 34 => v = .pointer (some ⟨b8, 3, none⟩) | 35 => v = .int .i64 (sr) | 36 => v = .int .i64 (ro3) | 37 => v = .pointer (some ⟨sb, 3, none⟩) | 38 => v = .pointer (some ⟨sb, 4, none⟩) | 39 => v = .int .i64 (hy) | 40 => v = .bool (false) | 41 => v = .bool (false) | 42 => v = .bool (false) | 43 => v = .pointer (some ⟨pb, 2, none⟩) | 44 => v = .int .i64 (pz) | 45 => v = .pointer (some ⟨b8, 3, none⟩) | 46 => v = .int .i64 (sr) | 47 => v = .int .i64 (ro4) | 48 => v = .pointer (some ⟨sb, 0, none⟩) | 49 => v = .pointer (some ⟨sb, 2, none⟩) | 50 => v = .int .i64 (lz) | 51 => v = .bool (false) | 52 => v = .bool (false) | 53 => v = .bool (false) | 54 => v = .pointer (some ⟨pb, 2, none⟩) | 55 => v = .int .i64 (pz) | 56 => v = .pointer (some ⟨b8, 3, none⟩) | 57 => v = .int .i64 (sr) | 58 => v = .int .i64 (ro5) | 59 => v = .pointer (some ⟨sb, 3, none⟩) | 60 => v = .pointer (some ⟨sb, 5, none⟩) | 61 => v = .int .i64 (hz) | 62 => v = .bool (false) | 63 => v = .bool (false) | 64 => v = .bool (false) | 65 => v = .agg #[.int .i64 (lx), .int .i64 (ly), .int .i64 (lz), .int .i64 (hx), .int .i64 (hy), .int .i64 (hz)] | 66 => v = .agg #[.int .i64 (px), .int .i64 (py), .int .i64 (pz), .int .i64 (px), .int .i64 (py), .int .i64 (pz)] | 67 => v = .bool (true) | 68 => v = .bool (!(true)) | 69 => v = .bool (!(true)) | 70 => v = .bool (!(true)) | 71 => v = .agg #[.int .i64 (lx), .int .i64 (ly), .int .i64 (lz), .int .i64 (hx), .int .i64 (hy), .int .i64 (hz)] | 72 => v = .agg #[.int .i64 (px), .int .i64 (py), .int .i64 (pz), .int .i64 (px), .int .i64 (py), .int .i64 (pz)] | 73 => v = .agg #[.int .i64 (lx), .int .i64 (ly), .int .i64 (lz), .int .i64 (hx), .int .i64 (hy), .int .i64 (hz)] | 74 => v = .agg #[.int .i64 (lx), .int .i64 (ly), .int .i64 (lz), .int .i64 (hx), .int .i64 (hy), .int .i64 (hz)] | 75 => v = .bool (false) | 76 => v = .bool (false) | _ => True) (fun γ L w9 => Below X2.heap.size X2 w9) (by kernel_rfl) (by kernel_rfl) (by kernel_rfl) (by kernel_rfl) ?_ ?_ ?_
          · exact (Below.refl _ X2).drew
          · generalize hD : dstOf _ = D
            generalize hWA : waitsFor _ = WA
            generalize hZ : Act.mk _ _ = Z
            obtain ⟨R, hR⟩ : ∃ R : Nat → Value → World → Prop, R = (fun j v w => match j with | 0 => v = .pointer (some ⟨pb, 0, none⟩) | 1 => v = .int .i64 (px) | 2 => v = .pointer (some ⟨b8, 3, none⟩) | 3 => v = .int .i64 (sr) | 4 => v = .int .i64 (ro0) | 5 => v = .pointer (some ⟨sb, 0, none⟩) | 6 => v = .pointer (some ⟨sb, 0, none⟩) | 7 => v = .int .i64 (lx) | 8 => v = .bool (false) | 9 => v = .bool (false) | 10 => v = .pointer (some ⟨pb, 0, none⟩) | 11 => v = .int .i64 (px) | 12 => v = .pointer (some ⟨b8, 3, none⟩) | 13 => v = .int .i64 (sr) | 14 => v = .int .i64 (ro1) | 15 => v = .pointer (some ⟨sb, 3, none⟩) | 16 => v = .pointer (some ⟨sb, 3, none⟩) | 17 => v = .int .i64 (hx) | 18 => v = .bool (false) | 19 => v = .bool (false) | 20 => v = .bool (false) | 21 => v = .pointer (some ⟨pb, 1, none⟩) | 22 => v = .int .i64 (py) | 23 => v = .pointer (some ⟨b8, 3, none⟩) | 24 => v = .int .i64 (sr) | 25 => v = .int .i64 (ro2) | 26 => v = .pointer (some ⟨sb, 0, none⟩) | 27 => v = .pointer (some ⟨sb, 1, none⟩) | 28 => v = .int .i64 (ly) | 29 => v = .bool (false) | 30 => v = .bool (false) | 31 => v = .bool (false) | 32 => v = .pointer (some ⟨pb, 1, none⟩) | 33 => v = .int .i64 (py) | 34 => v = .pointer (some ⟨b8, 3, none⟩) | 35 => v = .int .i64 (sr) | 36 => v = .int .i64 (ro3) | 37 => v = .pointer (some ⟨sb, 3, none⟩) | 38 => v = .pointer (some ⟨sb, 4, none⟩) | 39 => v = .int .i64 (hy) | 40 => v = .bool (false) | 41 => v = .bool (false) | 42 => v = .bool (false) | 43 => v = .pointer (some ⟨pb, 2, none⟩) | 44 => v = .int .i64 (pz) | 45 => v = .pointer (some ⟨b8, 3, none⟩) | 46 => v = .int .i64 (sr) | 47 => v = .int .i64 (ro4) | 48 => v = .pointer (some ⟨sb, 0, none⟩) | 49 => v = .pointer (some ⟨sb, 2, none⟩) | 50 => v = .int .i64 (lz) | 51 => v = .bool (false) | 52 => v = .bool (false) | 53 => v = .bool (false) | 54 => v = .pointer (some ⟨pb, 2, none⟩) | 55 => v = .int .i64 (pz) | 56 => v = .pointer (some ⟨b8, 3, none⟩) | 57 => v = .int .i64 (sr) | 58 => v = .int .i64 (ro5) | 59 => v = .pointer (some ⟨sb, 3, none⟩) | 60 => v = .pointer (some ⟨sb, 5, none⟩) | 61 => v = .int .i64 (hz) | 62 => v = .bool (false) | 63 => v = .bool (false) | 64 => v = .bool (false) | 65 => v = .agg #[.int .i64 (lx), .int .i64 (ly), .int .i64 (lz), .int .i64 (hx), .int .i64 (hy), .int .i64 (hz)] | 66 => v = .agg #[.int .i64 (px), .int .i64 (py), .int .i64 (pz), .int .i64 (px), .int .i64 (py), .int .i64 (pz)] | 67 => v = .bool (true) | 68 => v = .bool (!(true)) | 69 => v = .bool (!(true)) | 70 => v = .bool (!(true)) | 71 => v = .agg #[.int .i64 (lx), .int .i64 (ly), .int .i64 (lz), .int .i64 (hx), .int .i64 (hy), .int .i64 (hz)] | 72 => v = .agg #[.int .i64 (px), .int .i64 (py), .int .i64 (pz), .int .i64 (px), .int .i64 (py), .int .i64 (pz)] | 73 => v = .agg #[.int .i64 (lx), .int .i64 (ly), .int .i64 (lz), .int .i64 (hx), .int .i64 (hy), .int .i64 (hz)] | 74 => v = .agg #[.int .i64 (lx), .int .i64 (ly), .int .i64 (lz), .int .i64 (hx), .int .i64 (hy), .int .i64 (hz)] | 75 => v = .bool (false) | 76 => v = .bool (false) | _ => True) := ⟨_, rfl⟩
            rw [← hR]
            have d0 : D 0 = some 55 := by rw [← hD]; rfl
            have d1 : D 1 = some 56 := by rw [← hD]; rfl
            have d2 : D 2 = some 57 := by rw [← hD]; rfl
            have d3 : D 3 = some 58 := by rw [← hD]; rfl
            have d4 : D 4 = some 59 := by rw [← hD]; rfl
            have d5 : D 5 = some 60 := by rw [← hD]; rfl
            have d6 : D 6 = some 61 := by rw [← hD]; rfl
            have d7 : D 7 = some 62 := by rw [← hD]; rfl
            have d8 : D 8 = some 63 := by rw [← hD]; rfl
            have d9 : D 9 = some 64 := by rw [← hD]; rfl
            have d10 : D 10 = some 65 := by rw [← hD]; rfl
            have d11 : D 11 = some 66 := by rw [← hD]; rfl
            have d12 : D 12 = some 67 := by rw [← hD]; rfl
            have d13 : D 13 = some 68 := by rw [← hD]; rfl
            have d14 : D 14 = some 69 := by rw [← hD]; rfl
            have d15 : D 15 = some 70 := by rw [← hD]; rfl
            have d16 : D 16 = some 71 := by rw [← hD]; rfl
            have d17 : D 17 = some 72 := by rw [← hD]; rfl
            have d18 : D 18 = some 73 := by rw [← hD]; rfl
            have d19 : D 19 = some 74 := by rw [← hD]; rfl
            have d20 : D 20 = some 75 := by rw [← hD]; rfl
            have d21 : D 21 = some 76 := by rw [← hD]; rfl
            have d22 : D 22 = some 77 := by rw [← hD]; rfl
            have d23 : D 23 = some 78 := by rw [← hD]; rfl
            have d24 : D 24 = some 79 := by rw [← hD]; rfl
            have d25 : D 25 = some 80 := by rw [← hD]; rfl
            have d26 : D 26 = some 81 := by rw [← hD]; rfl
            have d27 : D 27 = some 82 := by rw [← hD]; rfl
            have d28 : D 28 = some 83 := by rw [← hD]; rfl
            have d29 : D 29 = some 84 := by rw [← hD]; rfl
            have d30 : D 30 = some 85 := by rw [← hD]; rfl
            have d31 : D 31 = some 86 := by rw [← hD]; rfl
            have d32 : D 32 = some 87 := by rw [← hD]; rfl
            have d33 : D 33 = some 88 := by rw [← hD]; rfl
            have d34 : D 34 = some 89 := by rw [← hD]; rfl
            have d35 : D 35 = some 90 := by rw [← hD]; rfl
            have d36 : D 36 = some 91 := by rw [← hD]; rfl
            have d37 : D 37 = some 92 := by rw [← hD]; rfl
            have d38 : D 38 = some 93 := by rw [← hD]; rfl
            have d39 : D 39 = some 94 := by rw [← hD]; rfl
            have d40 : D 40 = some 95 := by rw [← hD]; rfl
            have d41 : D 41 = some 96 := by rw [← hD]; rfl
            have d42 : D 42 = some 97 := by rw [← hD]; rfl
            have d43 : D 43 = some 98 := by rw [← hD]; rfl
            have d44 : D 44 = some 99 := by rw [← hD]; rfl
            have d45 : D 45 = some 100 := by rw [← hD]; rfl
            have d46 : D 46 = some 101 := by rw [← hD]; rfl
            have d47 : D 47 = some 102 := by rw [← hD]; rfl
            have d48 : D 48 = some 103 := by rw [← hD]; rfl
            have d49 : D 49 = some 104 := by rw [← hD]; rfl
            have d50 : D 50 = some 105 := by rw [← hD]; rfl
            have d51 : D 51 = some 106 := by rw [← hD]; rfl
            have d52 : D 52 = some 107 := by rw [← hD]; rfl
            have d53 : D 53 = some 108 := by rw [← hD]; rfl
            have d54 : D 54 = some 109 := by rw [← hD]; rfl
            have d55 : D 55 = some 110 := by rw [← hD]; rfl
            have d56 : D 56 = some 111 := by rw [← hD]; rfl
            have d57 : D 57 = some 112 := by rw [← hD]; rfl
            have d58 : D 58 = some 113 := by rw [← hD]; rfl
            have d59 : D 59 = some 114 := by rw [← hD]; rfl
            have d60 : D 60 = some 115 := by rw [← hD]; rfl
            have d61 : D 61 = some 116 := by rw [← hD]; rfl
            have d62 : D 62 = some 117 := by rw [← hD]; rfl
            have d63 : D 63 = some 118 := by rw [← hD]; rfl
            have d64 : D 64 = some 119 := by rw [← hD]; rfl
            have d65 : D 65 = some 120 := by rw [← hD]; rfl
            have d66 : D 66 = some 121 := by rw [← hD]; rfl
            have d67 : D 67 = some 122 := by rw [← hD]; rfl
            have d68 : D 68 = some 123 := by rw [← hD]; rfl
            have d69 : D 69 = some 124 := by rw [← hD]; rfl
            have d70 : D 70 = some 125 := by rw [← hD]; rfl
            have d71 : D 71 = some 126 := by rw [← hD]; rfl
            have d72 : D 72 = some 127 := by rw [← hD]; rfl
            have d73 : D 73 = some 128 := by rw [← hD]; rfl
            have d74 : D 74 = some 129 := by rw [← hD]; rfl
            have d75 : D 75 = some 130 := by rw [← hD]; rfl
            have d76 : D 76 = some 131 := by rw [← hD]; rfl
            have r0 : ∀ v w, R 0 v w = (v = .pointer (some ⟨pb, 0, none⟩)) := fun v w => by rw [hR]; rfl
            have r1 : ∀ v w, R 1 v w = (v = .int .i64 (px)) := fun v w => by rw [hR]; rfl
            have r2 : ∀ v w, R 2 v w = (v = .pointer (some ⟨b8, 3, none⟩)) := fun v w => by rw [hR]; rfl
            have r3 : ∀ v w, R 3 v w = (v = .int .i64 (sr)) := fun v w => by rw [hR]; rfl
            have r4 : ∀ v w, R 4 v w = (v = .int .i64 (ro0)) := fun v w => by rw [hR]; rfl
            have r5 : ∀ v w, R 5 v w = (v = .pointer (some ⟨sb, 0, none⟩)) := fun v w => by rw [hR]; rfl
            have r6 : ∀ v w, R 6 v w = (v = .pointer (some ⟨sb, 0, none⟩)) := fun v w => by rw [hR]; rfl
            have r7 : ∀ v w, R 7 v w = (v = .int .i64 (lx)) := fun v w => by rw [hR]; rfl
            have r8 : ∀ v w, R 8 v w = (v = .bool (false)) := fun v w => by rw [hR]; rfl
            have r9 : ∀ v w, R 9 v w = (v = .bool (false)) := fun v w => by rw [hR]; rfl
            have r10 : ∀ v w, R 10 v w = (v = .pointer (some ⟨pb, 0, none⟩)) := fun v w => by rw [hR]; rfl
            have r11 : ∀ v w, R 11 v w = (v = .int .i64 (px)) := fun v w => by rw [hR]; rfl
            have r12 : ∀ v w, R 12 v w = (v = .pointer (some ⟨b8, 3, none⟩)) := fun v w => by rw [hR]; rfl
            have r13 : ∀ v w, R 13 v w = (v = .int .i64 (sr)) := fun v w => by rw [hR]; rfl
            have r14 : ∀ v w, R 14 v w = (v = .int .i64 (ro1)) := fun v w => by rw [hR]; rfl
            have r15 : ∀ v w, R 15 v w = (v = .pointer (some ⟨sb, 3, none⟩)) := fun v w => by rw [hR]; rfl
            have r16 : ∀ v w, R 16 v w = (v = .pointer (some ⟨sb, 3, none⟩)) := fun v w => by rw [hR]; rfl
            have r17 : ∀ v w, R 17 v w = (v = .int .i64 (hx)) := fun v w => by rw [hR]; rfl
            have r18 : ∀ v w, R 18 v w = (v = .bool (false)) := fun v w => by rw [hR]; rfl
            have r19 : ∀ v w, R 19 v w = (v = .bool (false)) := fun v w => by rw [hR]; rfl
            have r20 : ∀ v w, R 20 v w = (v = .bool (false)) := fun v w => by rw [hR]; rfl
            have r21 : ∀ v w, R 21 v w = (v = .pointer (some ⟨pb, 1, none⟩)) := fun v w => by rw [hR]; rfl
            have r22 : ∀ v w, R 22 v w = (v = .int .i64 (py)) := fun v w => by rw [hR]; rfl
            have r23 : ∀ v w, R 23 v w = (v = .pointer (some ⟨b8, 3, none⟩)) := fun v w => by rw [hR]; rfl
            have r24 : ∀ v w, R 24 v w = (v = .int .i64 (sr)) := fun v w => by rw [hR]; rfl
            have r25 : ∀ v w, R 25 v w = (v = .int .i64 (ro2)) := fun v w => by rw [hR]; rfl
            have r26 : ∀ v w, R 26 v w = (v = .pointer (some ⟨sb, 0, none⟩)) := fun v w => by rw [hR]; rfl
            have r27 : ∀ v w, R 27 v w = (v = .pointer (some ⟨sb, 1, none⟩)) := fun v w => by rw [hR]; rfl
            have r28 : ∀ v w, R 28 v w = (v = .int .i64 (ly)) := fun v w => by rw [hR]; rfl
            have r29 : ∀ v w, R 29 v w = (v = .bool (false)) := fun v w => by rw [hR]; rfl
            have r30 : ∀ v w, R 30 v w = (v = .bool (false)) := fun v w => by rw [hR]; rfl
            have r31 : ∀ v w, R 31 v w = (v = .bool (false)) := fun v w => by rw [hR]; rfl
            have r32 : ∀ v w, R 32 v w = (v = .pointer (some ⟨pb, 1, none⟩)) := fun v w => by rw [hR]; rfl
            have r33 : ∀ v w, R 33 v w = (v = .int .i64 (py)) := fun v w => by rw [hR]; rfl
            have r34 : ∀ v w, R 34 v w = (v = .pointer (some ⟨b8, 3, none⟩)) := fun v w => by rw [hR]; rfl
            have r35 : ∀ v w, R 35 v w = (v = .int .i64 (sr)) := fun v w => by rw [hR]; rfl
            have r36 : ∀ v w, R 36 v w = (v = .int .i64 (ro3)) := fun v w => by rw [hR]; rfl
            have r37 : ∀ v w, R 37 v w = (v = .pointer (some ⟨sb, 3, none⟩)) := fun v w => by rw [hR]; rfl
            have r38 : ∀ v w, R 38 v w = (v = .pointer (some ⟨sb, 4, none⟩)) := fun v w => by rw [hR]; rfl
            have r39 : ∀ v w, R 39 v w = (v = .int .i64 (hy)) := fun v w => by rw [hR]; rfl
            have r40 : ∀ v w, R 40 v w = (v = .bool (false)) := fun v w => by rw [hR]; rfl
            have r41 : ∀ v w, R 41 v w = (v = .bool (false)) := fun v w => by rw [hR]; rfl
            have r42 : ∀ v w, R 42 v w = (v = .bool (false)) := fun v w => by rw [hR]; rfl
            have r43 : ∀ v w, R 43 v w = (v = .pointer (some ⟨pb, 2, none⟩)) := fun v w => by rw [hR]; rfl
            have r44 : ∀ v w, R 44 v w = (v = .int .i64 (pz)) := fun v w => by rw [hR]; rfl
            have r45 : ∀ v w, R 45 v w = (v = .pointer (some ⟨b8, 3, none⟩)) := fun v w => by rw [hR]; rfl
            have r46 : ∀ v w, R 46 v w = (v = .int .i64 (sr)) := fun v w => by rw [hR]; rfl
            have r47 : ∀ v w, R 47 v w = (v = .int .i64 (ro4)) := fun v w => by rw [hR]; rfl
            have r48 : ∀ v w, R 48 v w = (v = .pointer (some ⟨sb, 0, none⟩)) := fun v w => by rw [hR]; rfl
            have r49 : ∀ v w, R 49 v w = (v = .pointer (some ⟨sb, 2, none⟩)) := fun v w => by rw [hR]; rfl
            have r50 : ∀ v w, R 50 v w = (v = .int .i64 (lz)) := fun v w => by rw [hR]; rfl
            have r51 : ∀ v w, R 51 v w = (v = .bool (false)) := fun v w => by rw [hR]; rfl
            have r52 : ∀ v w, R 52 v w = (v = .bool (false)) := fun v w => by rw [hR]; rfl
            have r53 : ∀ v w, R 53 v w = (v = .bool (false)) := fun v w => by rw [hR]; rfl
            have r54 : ∀ v w, R 54 v w = (v = .pointer (some ⟨pb, 2, none⟩)) := fun v w => by rw [hR]; rfl
            have r55 : ∀ v w, R 55 v w = (v = .int .i64 (pz)) := fun v w => by rw [hR]; rfl
            have r56 : ∀ v w, R 56 v w = (v = .pointer (some ⟨b8, 3, none⟩)) := fun v w => by rw [hR]; rfl
            have r57 : ∀ v w, R 57 v w = (v = .int .i64 (sr)) := fun v w => by rw [hR]; rfl
            have r58 : ∀ v w, R 58 v w = (v = .int .i64 (ro5)) := fun v w => by rw [hR]; rfl
            have r59 : ∀ v w, R 59 v w = (v = .pointer (some ⟨sb, 3, none⟩)) := fun v w => by rw [hR]; rfl
            have r60 : ∀ v w, R 60 v w = (v = .pointer (some ⟨sb, 5, none⟩)) := fun v w => by rw [hR]; rfl
            have r61 : ∀ v w, R 61 v w = (v = .int .i64 (hz)) := fun v w => by rw [hR]; rfl
            have r62 : ∀ v w, R 62 v w = (v = .bool (false)) := fun v w => by rw [hR]; rfl
            have r63 : ∀ v w, R 63 v w = (v = .bool (false)) := fun v w => by rw [hR]; rfl
            have r64 : ∀ v w, R 64 v w = (v = .bool (false)) := fun v w => by rw [hR]; rfl
            have r65 : ∀ v w, R 65 v w = (v = .agg #[.int .i64 (lx), .int .i64 (ly), .int .i64 (lz), .int .i64 (hx), .int .i64 (hy), .int .i64 (hz)]) := fun v w => by rw [hR]; rfl
            have r66 : ∀ v w, R 66 v w = (v = .agg #[.int .i64 (px), .int .i64 (py), .int .i64 (pz), .int .i64 (px), .int .i64 (py), .int .i64 (pz)]) := fun v w => by rw [hR]; rfl
            have r67 : ∀ v w, R 67 v w = (v = .bool (true)) := fun v w => by rw [hR]; rfl
            have r68 : ∀ v w, R 68 v w = (v = .bool (!(true))) := fun v w => by rw [hR]; rfl
            have r69 : ∀ v w, R 69 v w = (v = .bool (!(true))) := fun v w => by rw [hR]; rfl
            have r70 : ∀ v w, R 70 v w = (v = .bool (!(true))) := fun v w => by rw [hR]; rfl
            have r71 : ∀ v w, R 71 v w = (v = .agg #[.int .i64 (lx), .int .i64 (ly), .int .i64 (lz), .int .i64 (hx), .int .i64 (hy), .int .i64 (hz)]) := fun v w => by rw [hR]; rfl
            have r72 : ∀ v w, R 72 v w = (v = .agg #[.int .i64 (px), .int .i64 (py), .int .i64 (pz), .int .i64 (px), .int .i64 (py), .int .i64 (pz)]) := fun v w => by rw [hR]; rfl
            have r73 : ∀ v w, R 73 v w = (v = .agg #[.int .i64 (lx), .int .i64 (ly), .int .i64 (lz), .int .i64 (hx), .int .i64 (hy), .int .i64 (hz)]) := fun v w => by rw [hR]; rfl
            have r74 : ∀ v w, R 74 v w = (v = .agg #[.int .i64 (lx), .int .i64 (ly), .int .i64 (lz), .int .i64 (hx), .int .i64 (hy), .int .i64 (hz)]) := fun v w => by rw [hR]; rfl
            have r75 : ∀ v w, R 75 v w = (v = .bool (false)) := fun v w => by rw [hR]; rfl
            have r76 : ∀ v w, R 76 v w = (v = .bool (false)) := fun v w => by rw [hR]; rfl
            have E8 : ∀ (γ : Nat → Value) (L : Nat → Bool) (a : Act) (w : World), RV.Held D WA R (fun γ L w9 => Below X2.heap.size X2 w9) Z γ L a w → a.tmps[8]? = some (.pointer (some ⟨b8, 0, none⟩)) := fun γ L a w hH => (hH.rest 8 (by rw [← hD]; exact RV.dst_free (by kernel_rfl))).trans (by rw [← hZ]; rfl)
            have E10 : ∀ (γ : Nat → Value) (L : Nat → Bool) (a : Act) (w : World), RV.Held D WA R (fun γ L w9 => Below X2.heap.size X2 w9) Z γ L a w → a.tmps[10]? = some (.pointer (some ⟨sb, 0, none⟩)) := fun γ L a w hH => (hH.rest 10 (by rw [← hD]; exact RV.dst_free (by kernel_rfl))).trans (by rw [← hZ]; rfl)
            have E12 : ∀ (γ : Nat → Value) (L : Nat → Bool) (a : Act) (w : World), RV.Held D WA R (fun γ L w9 => Below X2.heap.size X2 w9) Z γ L a w → a.tmps[12]? = some (.pointer (some ⟨pb, 0, none⟩)) := fun γ L a w hH => (hH.rest 12 (by rw [← hD]; exact RV.dst_free (by kernel_rfl))).trans (by rw [← hZ]; rfl)
            have E13 : ∀ (γ : Nat → Value) (L : Nat → Bool) (a : Act) (w : World), RV.Held D WA R (fun γ L w9 => Below X2.heap.size X2 w9) Z γ L a w → a.tmps[13]? = some (.pointer (some ⟨tb, 0, none⟩)) := fun γ L a w hH => (hH.rest 13 (by rw [← hD]; exact RV.dst_free (by kernel_rfl))).trans (by rw [← hZ]; rfl)
            have K : ∀ j v w w', R j v w → R j v w' := by rw [hR]; intro j v w w' h; exact h
            clear hD hWA hZ hR
            refine RV.AllDo.cons 0 (RV.does_pure (fun γ v L w hl h => h) (fun γ L a w hH hl hA => by have e0 := E12 γ L a w hH; exact ⟨.pointer (some ⟨pb, 0, none⟩), by simp [execOp, go_sem, e0], (r0 _ _).mpr rfl⟩)) ?_
            refine RV.AllDo.cons 1 (RV.does_pure (fun γ v L w hl h => h) (fun γ L a w hH hl hA => by have l0 : L 0 = true := hA ⟨0, .data⟩ (by simp) rfl; have e0 := hH.slot 0 55 d0 l0; have g0 := hH.holds 0 l0; rw [r0] at g0; rw [g0] at e0; have hB9 := hH.glob; have z0 := c_after hB9 cp0_; exact ⟨.int .i64 (px), by simp [execOp, go_sem, e0, z0], (r1 _ _).mpr rfl⟩)) ?_
            refine RV.AllDo.cons 2 (RV.does_pure (fun γ v L w hl h => h) (fun γ L a w hH hl hA => by have e0 := E8 γ L a w hH; exact ⟨.pointer (some ⟨b8, 3, none⟩), by simp [execOp, go_sem, e0], (r2 _ _).mpr rfl⟩)) ?_
            refine RV.AllDo.cons 3 (RV.does_pure (fun γ v L w hl h => h) (fun γ L a w hH hl hA => by have l0 : L 2 = true := hA ⟨2, .data⟩ (by simp) rfl; have e0 := hH.slot 2 57 d2 l0; have g0 := hH.holds 2 l0; rw [r2] at g0; rw [g0] at e0; have hB9 := hH.glob; have z0 := c_after hB9 cr3_; exact ⟨.int .i64 (sr), by simp [execOp, go_sem, e0, z0], (r3 _ _).mpr rfl⟩)) ?_
            refine RV.AllDo.cons 4 (RV.does_pure (fun γ v L w hl h => h) (fun γ L a w hH hl hA => by have l0 : L 1 = true := hA ⟨1, .data⟩ (by simp) rfl; have e0 := hH.slot 1 56 d1 l0; have g0 := hH.holds 1 l0; rw [r1] at g0; rw [g0] at e0; have l1 : L 3 = true := hA ⟨3, .data⟩ (by simp) rfl; have e1 := hH.slot 3 58 d3 l1; have g1 := hH.holds 3 l1; rw [r3] at g1; rw [g1] at e1; exact ⟨.int .i64 (ro0), by simp [execOp, go_sem, e0, e1, er0], (r4 _ _).mpr rfl⟩)) ?_
            refine RV.AllDo.cons 5 (RV.does_pure (fun γ v L w hl h => h) (fun γ L a w hH hl hA => by have e0 := E10 γ L a w hH; exact ⟨.pointer (some ⟨sb, 0, none⟩), by simp [execOp, go_sem, e0], (r5 _ _).mpr rfl⟩)) ?_
            refine RV.AllDo.cons 6 (RV.does_pure (fun γ v L w hl h => h) (fun γ L a w hH hl hA => by have l0 : L 5 = true := hA ⟨5, .data⟩ (by simp) rfl; have e0 := hH.slot 5 60 d5 l0; have g0 := hH.holds 5 l0; rw [r5] at g0; rw [g0] at e0; exact ⟨.pointer (some ⟨sb, 0, none⟩), by simp [execOp, go_sem, e0], (r6 _ _).mpr rfl⟩)) ?_
            refine RV.AllDo.cons 7 (RV.does_pure (fun γ v L w hl h => h) (fun γ L a w hH hl hA => by have l0 : L 6 = true := hA ⟨6, .data⟩ (by simp) rfl; have e0 := hH.slot 6 61 d6 l0; have g0 := hH.holds 6 l0; rw [r6] at g0; rw [g0] at e0; have hB9 := hH.glob; have z0 := c_after hB9 cs0_; exact ⟨.int .i64 (lx), by simp [execOp, go_sem, e0, z0], (r7 _ _).mpr rfl⟩)) ?_
            refine RV.AllDo.cons 8 (RV.does_pure (fun γ v L w hl h => h) (fun γ L a w hH hl hA => by have l0 : L 4 = true := hA ⟨4, .data⟩ (by simp) rfl; have e0 := hH.slot 4 59 d4 l0; have g0 := hH.holds 4 l0; rw [r4] at g0; rw [g0] at e0; have l1 : L 7 = true := hA ⟨7, .data⟩ (by simp) rfl; have e1 := hH.slot 7 62 d7 l1; have g1 := hH.holds 7 l1; rw [r7] at g1; rw [g1] at e1; exact ⟨.bool (false), by simp [execOp, go_sem, e0, e1, vo0], (r8 _ _).mpr rfl⟩)) ?_
            refine RV.AllDo.cons 9 (RV.does_pure (fun γ v L w hl h => h) (fun γ L a w hH hl hA => by have l0 : L 8 = true := hA ⟨8, .data⟩ (by simp) rfl; have e0 := hH.slot 8 63 d8 l0; have g0 := hH.holds 8 l0; rw [r8] at g0; rw [g0] at e0; exact ⟨.bool (false), by simp [execOp, go_sem, e0], (r9 _ _).mpr rfl⟩)) ?_
            refine RV.AllDo.cons 10 (RV.does_guarded rfl d9 (fun v w h => by rw [r9] at h; exact h) (by simp) (RV.does_pure (fun γ v L w hl h => h) (fun γ L a w hH hl hA => by have e0 := E12 γ L a w hH; exact ⟨.pointer (some ⟨pb, 0, none⟩), by simp [execOp, go_sem, e0], (r10 _ _).mpr rfl⟩))) ?_
            refine RV.AllDo.cons 11 (RV.does_guarded rfl d9 (fun v w h => by rw [r9] at h; exact h) (by simp) (RV.does_pure (fun γ v L w hl h => h) (fun γ L a w hH hl hA => by have l0 : L 10 = true := hA ⟨10, .data⟩ (by simp) rfl; have e0 := hH.slot 10 65 d10 l0; have g0 := hH.holds 10 l0; rw [r10] at g0; rw [g0] at e0; have hB9 := hH.glob; have z0 := c_after hB9 cp0_; exact ⟨.int .i64 (px), by simp [execOp, go_sem, e0, z0], (r11 _ _).mpr rfl⟩))) ?_
            refine RV.AllDo.cons 12 (RV.does_guarded rfl d9 (fun v w h => by rw [r9] at h; exact h) (by simp) (RV.does_pure (fun γ v L w hl h => h) (fun γ L a w hH hl hA => by have e0 := E8 γ L a w hH; exact ⟨.pointer (some ⟨b8, 3, none⟩), by simp [execOp, go_sem, e0], (r12 _ _).mpr rfl⟩))) ?_
            refine RV.AllDo.cons 13 (RV.does_guarded rfl d9 (fun v w h => by rw [r9] at h; exact h) (by simp) (RV.does_pure (fun γ v L w hl h => h) (fun γ L a w hH hl hA => by have l0 : L 12 = true := hA ⟨12, .data⟩ (by simp) rfl; have e0 := hH.slot 12 67 d12 l0; have g0 := hH.holds 12 l0; rw [r12] at g0; rw [g0] at e0; have hB9 := hH.glob; have z0 := c_after hB9 cr3_; exact ⟨.int .i64 (sr), by simp [execOp, go_sem, e0, z0], (r13 _ _).mpr rfl⟩))) ?_
            refine RV.AllDo.cons 14 (RV.does_guarded rfl d9 (fun v w h => by rw [r9] at h; exact h) (by simp) (RV.does_pure (fun γ v L w hl h => h) (fun γ L a w hH hl hA => by have l0 : L 11 = true := hA ⟨11, .data⟩ (by simp) rfl; have e0 := hH.slot 11 66 d11 l0; have g0 := hH.holds 11 l0; rw [r11] at g0; rw [g0] at e0; have l1 : L 13 = true := hA ⟨13, .data⟩ (by simp) rfl; have e1 := hH.slot 13 68 d13 l1; have g1 := hH.holds 13 l1; rw [r13] at g1; rw [g1] at e1; exact ⟨.int .i64 (ro1), by simp [execOp, go_sem, e0, e1, er1], (r14 _ _).mpr rfl⟩))) ?_
            refine RV.AllDo.cons 15 (RV.does_guarded rfl d9 (fun v w h => by rw [r9] at h; exact h) (by simp) (RV.does_pure (fun γ v L w hl h => h) (fun γ L a w hH hl hA => by have e0 := E10 γ L a w hH; exact ⟨.pointer (some ⟨sb, 3, none⟩), by simp [execOp, go_sem, e0], (r15 _ _).mpr rfl⟩))) ?_
            refine RV.AllDo.cons 16 (RV.does_guarded rfl d9 (fun v w h => by rw [r9] at h; exact h) (by simp) (RV.does_pure (fun γ v L w hl h => h) (fun γ L a w hH hl hA => by have l0 : L 15 = true := hA ⟨15, .data⟩ (by simp) rfl; have e0 := hH.slot 15 70 d15 l0; have g0 := hH.holds 15 l0; rw [r15] at g0; rw [g0] at e0; exact ⟨.pointer (some ⟨sb, 3, none⟩), by simp [execOp, go_sem, e0], (r16 _ _).mpr rfl⟩))) ?_
            refine RV.AllDo.cons 17 (RV.does_guarded rfl d9 (fun v w h => by rw [r9] at h; exact h) (by simp) (RV.does_pure (fun γ v L w hl h => h) (fun γ L a w hH hl hA => by have l0 : L 16 = true := hA ⟨16, .data⟩ (by simp) rfl; have e0 := hH.slot 16 71 d16 l0; have g0 := hH.holds 16 l0; rw [r16] at g0; rw [g0] at e0; have hB9 := hH.glob; have z0 := c_after hB9 cs3_; exact ⟨.int .i64 (hx), by simp [execOp, go_sem, e0, z0], (r17 _ _).mpr rfl⟩))) ?_
            refine RV.AllDo.cons 18 (RV.does_guarded rfl d9 (fun v w h => by rw [r9] at h; exact h) (by simp) (RV.does_pure (fun γ v L w hl h => h) (fun γ L a w hH hl hA => by have l0 : L 14 = true := hA ⟨14, .data⟩ (by simp) rfl; have e0 := hH.slot 14 69 d14 l0; have g0 := hH.holds 14 l0; rw [r14] at g0; rw [g0] at e0; have l1 : L 17 = true := hA ⟨17, .data⟩ (by simp) rfl; have e1 := hH.slot 17 72 d17 l1; have g1 := hH.holds 17 l1; rw [r17] at g1; rw [g1] at e1; exact ⟨.bool (false), by simp [execOp, go_sem, e0, e1, vo1], (r18 _ _).mpr rfl⟩))) ?_
            refine RV.AllDo.cons 19 (RV.does_pure (fun γ v L w hl h => h) (fun γ L a w hH hl hA => by have l0 : L 9 = true := hA ⟨9, .data⟩ (by simp) rfl; have e0 := hH.slot 9 64 d9 l0; have g0 := hH.holds 9 l0; rw [r9] at g0; rw [g0] at e0; have l1 : L 18 = true := hA ⟨18, .data⟩ (by simp) rfl; have e1 := hH.slot 18 73 d18 l1; have g1 := hH.holds 18 l1; rw [r18] at g1; rw [g1] at e1; exact ⟨.bool (false), by simp [execOp, go_sem, e0, e1], (r19 _ _).mpr rfl⟩)) ?_
            refine RV.AllDo.cons 20 (RV.does_pure (fun γ v L w hl h => h) (fun γ L a w hH hl hA => by have l0 : L 19 = true := hA ⟨19, .data⟩ (by simp) rfl; have e0 := hH.slot 19 74 d19 l0; have g0 := hH.holds 19 l0; rw [r19] at g0; rw [g0] at e0; exact ⟨.bool (false), by simp [execOp, go_sem, e0], (r20 _ _).mpr rfl⟩)) ?_
            refine RV.AllDo.cons 21 (RV.does_guarded rfl d20 (fun v w h => by rw [r20] at h; exact h) (by simp) (RV.does_pure (fun γ v L w hl h => h) (fun γ L a w hH hl hA => by have e0 := E12 γ L a w hH; exact ⟨.pointer (some ⟨pb, 1, none⟩), by simp [execOp, go_sem, e0], (r21 _ _).mpr rfl⟩))) ?_
            refine RV.AllDo.cons 22 (RV.does_guarded rfl d20 (fun v w h => by rw [r20] at h; exact h) (by simp) (RV.does_pure (fun γ v L w hl h => h) (fun γ L a w hH hl hA => by have l0 : L 21 = true := hA ⟨21, .data⟩ (by simp) rfl; have e0 := hH.slot 21 76 d21 l0; have g0 := hH.holds 21 l0; rw [r21] at g0; rw [g0] at e0; have hB9 := hH.glob; have z0 := c_after hB9 cp1_; exact ⟨.int .i64 (py), by simp [execOp, go_sem, e0, z0], (r22 _ _).mpr rfl⟩))) ?_
            refine RV.AllDo.cons 23 (RV.does_guarded rfl d20 (fun v w h => by rw [r20] at h; exact h) (by simp) (RV.does_pure (fun γ v L w hl h => h) (fun γ L a w hH hl hA => by have e0 := E8 γ L a w hH; exact ⟨.pointer (some ⟨b8, 3, none⟩), by simp [execOp, go_sem, e0], (r23 _ _).mpr rfl⟩))) ?_
            refine RV.AllDo.cons 24 (RV.does_guarded rfl d20 (fun v w h => by rw [r20] at h; exact h) (by simp) (RV.does_pure (fun γ v L w hl h => h) (fun γ L a w hH hl hA => by have l0 : L 23 = true := hA ⟨23, .data⟩ (by simp) rfl; have e0 := hH.slot 23 78 d23 l0; have g0 := hH.holds 23 l0; rw [r23] at g0; rw [g0] at e0; have hB9 := hH.glob; have z0 := c_after hB9 cr3_; exact ⟨.int .i64 (sr), by simp [execOp, go_sem, e0, z0], (r24 _ _).mpr rfl⟩))) ?_
            refine RV.AllDo.cons 25 (RV.does_guarded rfl d20 (fun v w h => by rw [r20] at h; exact h) (by simp) (RV.does_pure (fun γ v L w hl h => h) (fun γ L a w hH hl hA => by have l0 : L 22 = true := hA ⟨22, .data⟩ (by simp) rfl; have e0 := hH.slot 22 77 d22 l0; have g0 := hH.holds 22 l0; rw [r22] at g0; rw [g0] at e0; have l1 : L 24 = true := hA ⟨24, .data⟩ (by simp) rfl; have e1 := hH.slot 24 79 d24 l1; have g1 := hH.holds 24 l1; rw [r24] at g1; rw [g1] at e1; exact ⟨.int .i64 (ro2), by simp [execOp, go_sem, e0, e1, er2], (r25 _ _).mpr rfl⟩))) ?_
            refine RV.AllDo.cons 26 (RV.does_guarded rfl d20 (fun v w h => by rw [r20] at h; exact h) (by simp) (RV.does_pure (fun γ v L w hl h => h) (fun γ L a w hH hl hA => by have e0 := E10 γ L a w hH; exact ⟨.pointer (some ⟨sb, 0, none⟩), by simp [execOp, go_sem, e0], (r26 _ _).mpr rfl⟩))) ?_
            refine RV.AllDo.cons 27 (RV.does_guarded rfl d20 (fun v w h => by rw [r20] at h; exact h) (by simp) (RV.does_pure (fun γ v L w hl h => h) (fun γ L a w hH hl hA => by have l0 : L 26 = true := hA ⟨26, .data⟩ (by simp) rfl; have e0 := hH.slot 26 81 d26 l0; have g0 := hH.holds 26 l0; rw [r26] at g0; rw [g0] at e0; exact ⟨.pointer (some ⟨sb, 1, none⟩), by simp [execOp, go_sem, e0], (r27 _ _).mpr rfl⟩))) ?_
            refine RV.AllDo.cons 28 (RV.does_guarded rfl d20 (fun v w h => by rw [r20] at h; exact h) (by simp) (RV.does_pure (fun γ v L w hl h => h) (fun γ L a w hH hl hA => by have l0 : L 27 = true := hA ⟨27, .data⟩ (by simp) rfl; have e0 := hH.slot 27 82 d27 l0; have g0 := hH.holds 27 l0; rw [r27] at g0; rw [g0] at e0; have hB9 := hH.glob; have z0 := c_after hB9 cs1_; exact ⟨.int .i64 (ly), by simp [execOp, go_sem, e0, z0], (r28 _ _).mpr rfl⟩))) ?_
            refine RV.AllDo.cons 29 (RV.does_guarded rfl d20 (fun v w h => by rw [r20] at h; exact h) (by simp) (RV.does_pure (fun γ v L w hl h => h) (fun γ L a w hH hl hA => by have l0 : L 25 = true := hA ⟨25, .data⟩ (by simp) rfl; have e0 := hH.slot 25 80 d25 l0; have g0 := hH.holds 25 l0; rw [r25] at g0; rw [g0] at e0; have l1 : L 28 = true := hA ⟨28, .data⟩ (by simp) rfl; have e1 := hH.slot 28 83 d28 l1; have g1 := hH.holds 28 l1; rw [r28] at g1; rw [g1] at e1; exact ⟨.bool (false), by simp [execOp, go_sem, e0, e1, vo2], (r29 _ _).mpr rfl⟩))) ?_
            refine RV.AllDo.cons 30 (RV.does_pure (fun γ v L w hl h => h) (fun γ L a w hH hl hA => by have l0 : L 20 = true := hA ⟨20, .data⟩ (by simp) rfl; have e0 := hH.slot 20 75 d20 l0; have g0 := hH.holds 20 l0; rw [r20] at g0; rw [g0] at e0; have l1 : L 29 = true := hA ⟨29, .data⟩ (by simp) rfl; have e1 := hH.slot 29 84 d29 l1; have g1 := hH.holds 29 l1; rw [r29] at g1; rw [g1] at e1; exact ⟨.bool (false), by simp [execOp, go_sem, e0, e1], (r30 _ _).mpr rfl⟩)) ?_
            refine RV.AllDo.cons 31 (RV.does_pure (fun γ v L w hl h => h) (fun γ L a w hH hl hA => by have l0 : L 30 = true := hA ⟨30, .data⟩ (by simp) rfl; have e0 := hH.slot 30 85 d30 l0; have g0 := hH.holds 30 l0; rw [r30] at g0; rw [g0] at e0; exact ⟨.bool (false), by simp [execOp, go_sem, e0], (r31 _ _).mpr rfl⟩)) ?_
            refine RV.AllDo.cons 32 (RV.does_guarded rfl d31 (fun v w h => by rw [r31] at h; exact h) (by simp) (RV.does_pure (fun γ v L w hl h => h) (fun γ L a w hH hl hA => by have e0 := E12 γ L a w hH; exact ⟨.pointer (some ⟨pb, 1, none⟩), by simp [execOp, go_sem, e0], (r32 _ _).mpr rfl⟩))) ?_
            refine RV.AllDo.cons 33 (RV.does_guarded rfl d31 (fun v w h => by rw [r31] at h; exact h) (by simp) (RV.does_pure (fun γ v L w hl h => h) (fun γ L a w hH hl hA => by have l0 : L 32 = true := hA ⟨32, .data⟩ (by simp) rfl; have e0 := hH.slot 32 87 d32 l0; have g0 := hH.holds 32 l0; rw [r32] at g0; rw [g0] at e0; have hB9 := hH.glob; have z0 := c_after hB9 cp1_; exact ⟨.int .i64 (py), by simp [execOp, go_sem, e0, z0], (r33 _ _).mpr rfl⟩))) ?_
            refine RV.AllDo.cons 34 (RV.does_guarded rfl d31 (fun v w h => by rw [r31] at h; exact h) (by simp) (RV.does_pure (fun γ v L w hl h => h) (fun γ L a w hH hl hA => by have e0 := E8 γ L a w hH; exact ⟨.pointer (some ⟨b8, 3, none⟩), by simp [execOp, go_sem, e0], (r34 _ _).mpr rfl⟩))) ?_
            refine RV.AllDo.cons 35 (RV.does_guarded rfl d31 (fun v w h => by rw [r31] at h; exact h) (by simp) (RV.does_pure (fun γ v L w hl h => h) (fun γ L a w hH hl hA => by have l0 : L 34 = true := hA ⟨34, .data⟩ (by simp) rfl; have e0 := hH.slot 34 89 d34 l0; have g0 := hH.holds 34 l0; rw [r34] at g0; rw [g0] at e0; have hB9 := hH.glob; have z0 := c_after hB9 cr3_; exact ⟨.int .i64 (sr), by simp [execOp, go_sem, e0, z0], (r35 _ _).mpr rfl⟩))) ?_
            refine RV.AllDo.cons 36 (RV.does_guarded rfl d31 (fun v w h => by rw [r31] at h; exact h) (by simp) (RV.does_pure (fun γ v L w hl h => h) (fun γ L a w hH hl hA => by have l0 : L 33 = true := hA ⟨33, .data⟩ (by simp) rfl; have e0 := hH.slot 33 88 d33 l0; have g0 := hH.holds 33 l0; rw [r33] at g0; rw [g0] at e0; have l1 : L 35 = true := hA ⟨35, .data⟩ (by simp) rfl; have e1 := hH.slot 35 90 d35 l1; have g1 := hH.holds 35 l1; rw [r35] at g1; rw [g1] at e1; exact ⟨.int .i64 (ro3), by simp [execOp, go_sem, e0, e1, er3], (r36 _ _).mpr rfl⟩))) ?_
            refine RV.AllDo.cons 37 (RV.does_guarded rfl d31 (fun v w h => by rw [r31] at h; exact h) (by simp) (RV.does_pure (fun γ v L w hl h => h) (fun γ L a w hH hl hA => by have e0 := E10 γ L a w hH; exact ⟨.pointer (some ⟨sb, 3, none⟩), by simp [execOp, go_sem, e0], (r37 _ _).mpr rfl⟩))) ?_
            refine RV.AllDo.cons 38 (RV.does_guarded rfl d31 (fun v w h => by rw [r31] at h; exact h) (by simp) (RV.does_pure (fun γ v L w hl h => h) (fun γ L a w hH hl hA => by have l0 : L 37 = true := hA ⟨37, .data⟩ (by simp) rfl; have e0 := hH.slot 37 92 d37 l0; have g0 := hH.holds 37 l0; rw [r37] at g0; rw [g0] at e0; exact ⟨.pointer (some ⟨sb, 4, none⟩), by simp [execOp, go_sem, e0], (r38 _ _).mpr rfl⟩))) ?_
            refine RV.AllDo.cons 39 (RV.does_guarded rfl d31 (fun v w h => by rw [r31] at h; exact h) (by simp) (RV.does_pure (fun γ v L w hl h => h) (fun γ L a w hH hl hA => by have l0 : L 38 = true := hA ⟨38, .data⟩ (by simp) rfl; have e0 := hH.slot 38 93 d38 l0; have g0 := hH.holds 38 l0; rw [r38] at g0; rw [g0] at e0; have hB9 := hH.glob; have z0 := c_after hB9 cs4_; exact ⟨.int .i64 (hy), by simp [execOp, go_sem, e0, z0], (r39 _ _).mpr rfl⟩))) ?_
            refine RV.AllDo.cons 40 (RV.does_guarded rfl d31 (fun v w h => by rw [r31] at h; exact h) (by simp) (RV.does_pure (fun γ v L w hl h => h) (fun γ L a w hH hl hA => by have l0 : L 36 = true := hA ⟨36, .data⟩ (by simp) rfl; have e0 := hH.slot 36 91 d36 l0; have g0 := hH.holds 36 l0; rw [r36] at g0; rw [g0] at e0; have l1 : L 39 = true := hA ⟨39, .data⟩ (by simp) rfl; have e1 := hH.slot 39 94 d39 l1; have g1 := hH.holds 39 l1; rw [r39] at g1; rw [g1] at e1; exact ⟨.bool (false), by simp [execOp, go_sem, e0, e1, vo3], (r40 _ _).mpr rfl⟩))) ?_
            refine RV.AllDo.cons 41 (RV.does_pure (fun γ v L w hl h => h) (fun γ L a w hH hl hA => by have l0 : L 31 = true := hA ⟨31, .data⟩ (by simp) rfl; have e0 := hH.slot 31 86 d31 l0; have g0 := hH.holds 31 l0; rw [r31] at g0; rw [g0] at e0; have l1 : L 40 = true := hA ⟨40, .data⟩ (by simp) rfl; have e1 := hH.slot 40 95 d40 l1; have g1 := hH.holds 40 l1; rw [r40] at g1; rw [g1] at e1; exact ⟨.bool (false), by simp [execOp, go_sem, e0, e1], (r41 _ _).mpr rfl⟩)) ?_
            refine RV.AllDo.cons 42 (RV.does_pure (fun γ v L w hl h => h) (fun γ L a w hH hl hA => by have l0 : L 41 = true := hA ⟨41, .data⟩ (by simp) rfl; have e0 := hH.slot 41 96 d41 l0; have g0 := hH.holds 41 l0; rw [r41] at g0; rw [g0] at e0; exact ⟨.bool (false), by simp [execOp, go_sem, e0], (r42 _ _).mpr rfl⟩)) ?_
            refine RV.AllDo.cons 43 (RV.does_guarded rfl d42 (fun v w h => by rw [r42] at h; exact h) (by simp) (RV.does_pure (fun γ v L w hl h => h) (fun γ L a w hH hl hA => by have e0 := E12 γ L a w hH; exact ⟨.pointer (some ⟨pb, 2, none⟩), by simp [execOp, go_sem, e0], (r43 _ _).mpr rfl⟩))) ?_
            refine RV.AllDo.cons 44 (RV.does_guarded rfl d42 (fun v w h => by rw [r42] at h; exact h) (by simp) (RV.does_pure (fun γ v L w hl h => h) (fun γ L a w hH hl hA => by have l0 : L 43 = true := hA ⟨43, .data⟩ (by simp) rfl; have e0 := hH.slot 43 98 d43 l0; have g0 := hH.holds 43 l0; rw [r43] at g0; rw [g0] at e0; have hB9 := hH.glob; have z0 := c_after hB9 cp2_; exact ⟨.int .i64 (pz), by simp [execOp, go_sem, e0, z0], (r44 _ _).mpr rfl⟩))) ?_
            refine RV.AllDo.cons 45 (RV.does_guarded rfl d42 (fun v w h => by rw [r42] at h; exact h) (by simp) (RV.does_pure (fun γ v L w hl h => h) (fun γ L a w hH hl hA => by have e0 := E8 γ L a w hH; exact ⟨.pointer (some ⟨b8, 3, none⟩), by simp [execOp, go_sem, e0], (r45 _ _).mpr rfl⟩))) ?_
            refine RV.AllDo.cons 46 (RV.does_guarded rfl d42 (fun v w h => by rw [r42] at h; exact h) (by simp) (RV.does_pure (fun γ v L w hl h => h) (fun γ L a w hH hl hA => by have l0 : L 45 = true := hA ⟨45, .data⟩ (by simp) rfl; have e0 := hH.slot 45 100 d45 l0; have g0 := hH.holds 45 l0; rw [r45] at g0; rw [g0] at e0; have hB9 := hH.glob; have z0 := c_after hB9 cr3_; exact ⟨.int .i64 (sr), by simp [execOp, go_sem, e0, z0], (r46 _ _).mpr rfl⟩))) ?_
            refine RV.AllDo.cons 47 (RV.does_guarded rfl d42 (fun v w h => by rw [r42] at h; exact h) (by simp) (RV.does_pure (fun γ v L w hl h => h) (fun γ L a w hH hl hA => by have l0 : L 44 = true := hA ⟨44, .data⟩ (by simp) rfl; have e0 := hH.slot 44 99 d44 l0; have g0 := hH.holds 44 l0; rw [r44] at g0; rw [g0] at e0; have l1 : L 46 = true := hA ⟨46, .data⟩ (by simp) rfl; have e1 := hH.slot 46 101 d46 l1; have g1 := hH.holds 46 l1; rw [r46] at g1; rw [g1] at e1; exact ⟨.int .i64 (ro4), by simp [execOp, go_sem, e0, e1, er4], (r47 _ _).mpr rfl⟩))) ?_
            refine RV.AllDo.cons 48 (RV.does_guarded rfl d42 (fun v w h => by rw [r42] at h; exact h) (by simp) (RV.does_pure (fun γ v L w hl h => h) (fun γ L a w hH hl hA => by have e0 := E10 γ L a w hH; exact ⟨.pointer (some ⟨sb, 0, none⟩), by simp [execOp, go_sem, e0], (r48 _ _).mpr rfl⟩))) ?_
            refine RV.AllDo.cons 49 (RV.does_guarded rfl d42 (fun v w h => by rw [r42] at h; exact h) (by simp) (RV.does_pure (fun γ v L w hl h => h) (fun γ L a w hH hl hA => by have l0 : L 48 = true := hA ⟨48, .data⟩ (by simp) rfl; have e0 := hH.slot 48 103 d48 l0; have g0 := hH.holds 48 l0; rw [r48] at g0; rw [g0] at e0; exact ⟨.pointer (some ⟨sb, 2, none⟩), by simp [execOp, go_sem, e0], (r49 _ _).mpr rfl⟩))) ?_
            refine RV.AllDo.cons 50 (RV.does_guarded rfl d42 (fun v w h => by rw [r42] at h; exact h) (by simp) (RV.does_pure (fun γ v L w hl h => h) (fun γ L a w hH hl hA => by have l0 : L 49 = true := hA ⟨49, .data⟩ (by simp) rfl; have e0 := hH.slot 49 104 d49 l0; have g0 := hH.holds 49 l0; rw [r49] at g0; rw [g0] at e0; have hB9 := hH.glob; have z0 := c_after hB9 cs2_; exact ⟨.int .i64 (lz), by simp [execOp, go_sem, e0, z0], (r50 _ _).mpr rfl⟩))) ?_
            refine RV.AllDo.cons 51 (RV.does_guarded rfl d42 (fun v w h => by rw [r42] at h; exact h) (by simp) (RV.does_pure (fun γ v L w hl h => h) (fun γ L a w hH hl hA => by have l0 : L 47 = true := hA ⟨47, .data⟩ (by simp) rfl; have e0 := hH.slot 47 102 d47 l0; have g0 := hH.holds 47 l0; rw [r47] at g0; rw [g0] at e0; have l1 : L 50 = true := hA ⟨50, .data⟩ (by simp) rfl; have e1 := hH.slot 50 105 d50 l1; have g1 := hH.holds 50 l1; rw [r50] at g1; rw [g1] at e1; exact ⟨.bool (false), by simp [execOp, go_sem, e0, e1, vo4], (r51 _ _).mpr rfl⟩))) ?_
            refine RV.AllDo.cons 52 (RV.does_pure (fun γ v L w hl h => h) (fun γ L a w hH hl hA => by have l0 : L 42 = true := hA ⟨42, .data⟩ (by simp) rfl; have e0 := hH.slot 42 97 d42 l0; have g0 := hH.holds 42 l0; rw [r42] at g0; rw [g0] at e0; have l1 : L 51 = true := hA ⟨51, .data⟩ (by simp) rfl; have e1 := hH.slot 51 106 d51 l1; have g1 := hH.holds 51 l1; rw [r51] at g1; rw [g1] at e1; exact ⟨.bool (false), by simp [execOp, go_sem, e0, e1], (r52 _ _).mpr rfl⟩)) ?_
            refine RV.AllDo.cons 53 (RV.does_pure (fun γ v L w hl h => h) (fun γ L a w hH hl hA => by have l0 : L 52 = true := hA ⟨52, .data⟩ (by simp) rfl; have e0 := hH.slot 52 107 d52 l0; have g0 := hH.holds 52 l0; rw [r52] at g0; rw [g0] at e0; exact ⟨.bool (false), by simp [execOp, go_sem, e0], (r53 _ _).mpr rfl⟩)) ?_
            refine RV.AllDo.cons 54 (RV.does_guarded rfl d53 (fun v w h => by rw [r53] at h; exact h) (by simp) (RV.does_pure (fun γ v L w hl h => h) (fun γ L a w hH hl hA => by have e0 := E12 γ L a w hH; exact ⟨.pointer (some ⟨pb, 2, none⟩), by simp [execOp, go_sem, e0], (r54 _ _).mpr rfl⟩))) ?_
            refine RV.AllDo.cons 55 (RV.does_guarded rfl d53 (fun v w h => by rw [r53] at h; exact h) (by simp) (RV.does_pure (fun γ v L w hl h => h) (fun γ L a w hH hl hA => by have l0 : L 54 = true := hA ⟨54, .data⟩ (by simp) rfl; have e0 := hH.slot 54 109 d54 l0; have g0 := hH.holds 54 l0; rw [r54] at g0; rw [g0] at e0; have hB9 := hH.glob; have z0 := c_after hB9 cp2_; exact ⟨.int .i64 (pz), by simp [execOp, go_sem, e0, z0], (r55 _ _).mpr rfl⟩))) ?_
            refine RV.AllDo.cons 56 (RV.does_guarded rfl d53 (fun v w h => by rw [r53] at h; exact h) (by simp) (RV.does_pure (fun γ v L w hl h => h) (fun γ L a w hH hl hA => by have e0 := E8 γ L a w hH; exact ⟨.pointer (some ⟨b8, 3, none⟩), by simp [execOp, go_sem, e0], (r56 _ _).mpr rfl⟩))) ?_
            refine RV.AllDo.cons 57 (RV.does_guarded rfl d53 (fun v w h => by rw [r53] at h; exact h) (by simp) (RV.does_pure (fun γ v L w hl h => h) (fun γ L a w hH hl hA => by have l0 : L 56 = true := hA ⟨56, .data⟩ (by simp) rfl; have e0 := hH.slot 56 111 d56 l0; have g0 := hH.holds 56 l0; rw [r56] at g0; rw [g0] at e0; have hB9 := hH.glob; have z0 := c_after hB9 cr3_; exact ⟨.int .i64 (sr), by simp [execOp, go_sem, e0, z0], (r57 _ _).mpr rfl⟩))) ?_
            refine RV.AllDo.cons 58 (RV.does_guarded rfl d53 (fun v w h => by rw [r53] at h; exact h) (by simp) (RV.does_pure (fun γ v L w hl h => h) (fun γ L a w hH hl hA => by have l0 : L 55 = true := hA ⟨55, .data⟩ (by simp) rfl; have e0 := hH.slot 55 110 d55 l0; have g0 := hH.holds 55 l0; rw [r55] at g0; rw [g0] at e0; have l1 : L 57 = true := hA ⟨57, .data⟩ (by simp) rfl; have e1 := hH.slot 57 112 d57 l1; have g1 := hH.holds 57 l1; rw [r57] at g1; rw [g1] at e1; exact ⟨.int .i64 (ro5), by simp [execOp, go_sem, e0, e1, er5], (r58 _ _).mpr rfl⟩))) ?_
            refine RV.AllDo.cons 59 (RV.does_guarded rfl d53 (fun v w h => by rw [r53] at h; exact h) (by simp) (RV.does_pure (fun γ v L w hl h => h) (fun γ L a w hH hl hA => by have e0 := E10 γ L a w hH; exact ⟨.pointer (some ⟨sb, 3, none⟩), by simp [execOp, go_sem, e0], (r59 _ _).mpr rfl⟩))) ?_
            refine RV.AllDo.cons 60 (RV.does_guarded rfl d53 (fun v w h => by rw [r53] at h; exact h) (by simp) (RV.does_pure (fun γ v L w hl h => h) (fun γ L a w hH hl hA => by have l0 : L 59 = true := hA ⟨59, .data⟩ (by simp) rfl; have e0 := hH.slot 59 114 d59 l0; have g0 := hH.holds 59 l0; rw [r59] at g0; rw [g0] at e0; exact ⟨.pointer (some ⟨sb, 5, none⟩), by simp [execOp, go_sem, e0], (r60 _ _).mpr rfl⟩))) ?_
            refine RV.AllDo.cons 61 (RV.does_guarded rfl d53 (fun v w h => by rw [r53] at h; exact h) (by simp) (RV.does_pure (fun γ v L w hl h => h) (fun γ L a w hH hl hA => by have l0 : L 60 = true := hA ⟨60, .data⟩ (by simp) rfl; have e0 := hH.slot 60 115 d60 l0; have g0 := hH.holds 60 l0; rw [r60] at g0; rw [g0] at e0; have hB9 := hH.glob; have z0 := c_after hB9 cs5_; exact ⟨.int .i64 (hz), by simp [execOp, go_sem, e0, z0], (r61 _ _).mpr rfl⟩))) ?_
            refine RV.AllDo.cons 62 (RV.does_guarded rfl d53 (fun v w h => by rw [r53] at h; exact h) (by simp) (RV.does_pure (fun γ v L w hl h => h) (fun γ L a w hH hl hA => by have l0 : L 58 = true := hA ⟨58, .data⟩ (by simp) rfl; have e0 := hH.slot 58 113 d58 l0; have g0 := hH.holds 58 l0; rw [r58] at g0; rw [g0] at e0; have l1 : L 61 = true := hA ⟨61, .data⟩ (by simp) rfl; have e1 := hH.slot 61 116 d61 l1; have g1 := hH.holds 61 l1; rw [r61] at g1; rw [g1] at e1; exact ⟨.bool (false), by simp [execOp, go_sem, e0, e1, vo5], (r62 _ _).mpr rfl⟩))) ?_
            refine RV.AllDo.cons 63 (RV.does_pure (fun γ v L w hl h => h) (fun γ L a w hH hl hA => by have l0 : L 53 = true := hA ⟨53, .data⟩ (by simp) rfl; have e0 := hH.slot 53 108 d53 l0; have g0 := hH.holds 53 l0; rw [r53] at g0; rw [g0] at e0; have l1 : L 62 = true := hA ⟨62, .data⟩ (by simp) rfl; have e1 := hH.slot 62 117 d62 l1; have g1 := hH.holds 62 l1; rw [r62] at g1; rw [g1] at e1; exact ⟨.bool (false), by simp [execOp, go_sem, e0, e1], (r63 _ _).mpr rfl⟩)) ?_
            refine RV.AllDo.cons 64 (RV.does_pure (fun γ v L w hl h => h) (fun γ L a w hH hl hA => by have l0 : L 63 = true := hA ⟨63, .data⟩ (by simp) rfl; have e0 := hH.slot 63 118 d63 l0; have g0 := hH.holds 63 l0; rw [r63] at g0; rw [g0] at e0; exact ⟨.bool (false), by simp [execOp, go_sem, e0], (r64 _ _).mpr rfl⟩)) ?_
            refine RV.AllDo.cons 65 (RV.does_guarded rfl d64 (fun v w h => by rw [r64] at h; exact h) (by simp) (RV.does_pure (fun γ v L w hl h => h) (fun γ L a w hH hl hA => by have e0 := E10 γ L a w hH; have hB9 := hH.glob; have z0 := c_after hB9 cs0_; have z1 := c_after hB9 cs1_; have z2 := c_after hB9 cs2_; have z3 := c_after hB9 cs3_; have z4 := c_after hB9 cs4_; have z5 := c_after hB9 cs5_; exact ⟨.agg #[.int .i64 (lx), .int .i64 (ly), .int .i64 (lz), .int .i64 (hx), .int .i64 (hy), .int .i64 (hz)], by simp [execOp, go_sem, e0, z0, z1, z2, z3, z4, z5], (r65 _ _).mpr rfl⟩))) ?_
            refine RV.AllDo.cons 66 (RV.does_guarded rfl d64 (fun v w h => by rw [r64] at h; exact h) (by simp) (RV.does_pure (fun γ v L w hl h => h) (fun γ L a w hH hl hA => by have e0 := E13 γ L a w hH; have hB9 := hH.glob; have z0 := c_after hB9 ct0_; have z1 := c_after hB9 ct1_; have z2 := c_after hB9 ct2_; have z3 := c_after hB9 ct3_; have z4 := c_after hB9 ct4_; have z5 := c_after hB9 ct5_; exact ⟨.agg #[.int .i64 (px), .int .i64 (py), .int .i64 (pz), .int .i64 (px), .int .i64 (py), .int .i64 (pz)], by simp [execOp, go_sem, e0, z0, z1, z2, z3, z4, z5], (r66 _ _).mpr rfl⟩))) ?_
            refine RV.AllDo.cons 67 (RV.does_guarded rfl d64 (fun v w h => by rw [r64] at h; exact h) (by simp) (RV.does_call (fun γ L a w hH hl hA => by have l0 : L 65 = true := hA ⟨65, .data⟩ (by simp) rfl; have e0 := hH.slot 65 120 d65 l0; have g0 := hH.holds 65 l0; rw [r65] at g0; rw [g0] at e0; have l1 : L 66 = true := hA ⟨66, .data⟩ (by simp) rfl; have e1 := hH.slot 66 121 d66 l1; have g1 := hH.holds 66 l1; rw [r66] at g1; rw [g1] at e1; have hB9 := hH.glob; exact ⟨21, #[.agg #[.int .i64 (lx), .int .i64 (ly), .int .i64 (lz), .int .i64 (hx), .int .i64 (hy), .int .i64 (hz)], .agg #[.int .i64 (px), .int .i64 (py), .int .i64 (pz), .int .i64 (px), .int .i64 (py), .int .i64 (pz)]], by simp [go_sem, e0, e1], Calls.mono (HM.out w) (by rintro e w2 ⟨rfl, hb⟩; exact ⟨_, rfl, (r67 _ _).mpr rfl, fun j v _ h => K j v _ _ h, hB9.trans (hb.mono hB9.size)⟩)⟩))) ?_
            refine RV.AllDo.cons 68 (RV.does_guarded rfl d64 (fun v w h => by rw [r64] at h; exact h) (by simp) (RV.does_pure (fun γ v L w hl h => h) (fun γ L a w hH hl hA => by have l0 : L 67 = true := hA ⟨67, .data⟩ (by simp) rfl; have e0 := hH.slot 67 122 d67 l0; have g0 := hH.holds 67 l0; rw [r67] at g0; rw [g0] at e0; exact ⟨.bool (!(true)), by simp [execOp, go_sem, e0], (r68 _ _).mpr rfl⟩))) ?_
            refine RV.AllDo.cons 69 (RV.does_pure (fun γ v L w hl h => h) (fun γ L a w hH hl hA => by have l0 : L 64 = true := hA ⟨64, .data⟩ (by simp) rfl; have e0 := hH.slot 64 119 d64 l0; have g0 := hH.holds 64 l0; rw [r64] at g0; rw [g0] at e0; have l1 : L 68 = true := hA ⟨68, .data⟩ (by simp) rfl; have e1 := hH.slot 68 123 d68 l1; have g1 := hH.holds 68 l1; rw [r68] at g1; rw [g1] at e1; exact ⟨.bool (!(true)), by simp [execOp, go_sem, e0, e1], (r69 _ _).mpr rfl⟩)) ?_
            refine RV.AllDo.cons 70 (RV.does_pure (fun γ v L w hl h => h) (fun γ L a w hH hl hA => by have l0 : L 69 = true := hA ⟨69, .data⟩ (by simp) rfl; have e0 := hH.slot 69 124 d69 l0; have g0 := hH.holds 69 l0; rw [r69] at g0; rw [g0] at e0; exact ⟨.bool (!(true)), by simp [execOp, go_sem, e0], (r70 _ _).mpr rfl⟩)) ?_
            refine RV.AllDo.cons 71 (RV.does_guarded rfl d70 (fun v w h => by rw [r70] at h; exact h) (by simp) (RV.does_pure (fun γ v L w hl h => h) (fun γ L a w hH hl hA => by have e0 := E10 γ L a w hH; have hB9 := hH.glob; have z0 := c_after hB9 cs0_; have z1 := c_after hB9 cs1_; have z2 := c_after hB9 cs2_; have z3 := c_after hB9 cs3_; have z4 := c_after hB9 cs4_; have z5 := c_after hB9 cs5_; exact ⟨.agg #[.int .i64 (lx), .int .i64 (ly), .int .i64 (lz), .int .i64 (hx), .int .i64 (hy), .int .i64 (hz)], by simp [execOp, go_sem, e0, z0, z1, z2, z3, z4, z5], (r71 _ _).mpr rfl⟩))) ?_
            refine RV.AllDo.cons 72 (RV.does_guarded rfl d70 (fun v w h => by rw [r70] at h; exact h) (by simp) (RV.does_pure (fun γ v L w hl h => h) (fun γ L a w hH hl hA => by have e0 := E13 γ L a w hH; have hB9 := hH.glob; have z0 := c_after hB9 ct0_; have z1 := c_after hB9 ct1_; have z2 := c_after hB9 ct2_; have z3 := c_after hB9 ct3_; have z4 := c_after hB9 ct4_; have z5 := c_after hB9 ct5_; exact ⟨.agg #[.int .i64 (px), .int .i64 (py), .int .i64 (pz), .int .i64 (px), .int .i64 (py), .int .i64 (pz)], by simp [execOp, go_sem, e0, z0, z1, z2, z3, z4, z5], (r72 _ _).mpr rfl⟩))) ?_
            refine RV.AllDo.cons 73 (RV.does_guarded rfl d70 (fun v w h => by rw [r70] at h; exact h) (by simp) (RV.does_call (fun γ L a w hH hl hA => by have l0 : L 71 = true := hA ⟨71, .data⟩ (by simp) rfl; have e0 := hH.slot 71 126 d71 l0; have g0 := hH.holds 71 l0; rw [r71] at g0; rw [g0] at e0; have l1 : L 72 = true := hA ⟨72, .data⟩ (by simp) rfl; have e1 := hH.slot 72 127 d72 l1; have g1 := hH.holds 72 l1; rw [r72] at g1; rw [g1] at e1; have hB9 := hH.glob; exact ⟨22, #[.agg #[.int .i64 (lx), .int .i64 (ly), .int .i64 (lz), .int .i64 (hx), .int .i64 (hy), .int .i64 (hz)], .agg #[.int .i64 (px), .int .i64 (py), .int .i64 (pz), .int .i64 (px), .int .i64 (py), .int .i64 (pz)]], by simp [go_sem, e0, e1], Calls.mono (HJ.out w) (by rintro e w2 ⟨rfl, hb⟩; exact ⟨_, rfl, (r73 _ _).mpr rfl, fun j v _ h => K j v _ _ h, hB9.trans (hb.mono hB9.size)⟩)⟩))) ?_
            refine RV.AllDo.cons 74 (RV.does_guarded rfl d70 (fun v w h => by rw [r70] at h; exact h) (by simp) (RV.does_pure (fun γ v L w hl h => h) (fun γ L a w hH hl hA => by have e0 := E10 γ L a w hH; have hB9 := hH.glob; have z0 := c_after hB9 cs0_; have z1 := c_after hB9 cs1_; have z2 := c_after hB9 cs2_; have z3 := c_after hB9 cs3_; have z4 := c_after hB9 cs4_; have z5 := c_after hB9 cs5_; exact ⟨.agg #[.int .i64 (lx), .int .i64 (ly), .int .i64 (lz), .int .i64 (hx), .int .i64 (hy), .int .i64 (hz)], by simp [execOp, go_sem, e0, z0, z1, z2, z3, z4, z5], (r74 _ _).mpr rfl⟩))) ?_
            refine RV.AllDo.cons 75 (RV.does_guarded rfl d70 (fun v w h => by rw [r70] at h; exact h) (by simp) (RV.does_pure (fun γ v L w hl h => h) (fun γ L a w hH hl hA => by have l0 : L 73 = true := hA ⟨73, .data⟩ (by simp) rfl; have e0 := hH.slot 73 128 d73 l0; have g0 := hH.holds 73 l0; rw [r73] at g0; rw [g0] at e0; have l1 : L 74 = true := hA ⟨74, .data⟩ (by simp) rfl; have e1 := hH.slot 74 129 d74 l1; have g1 := hH.holds 74 l1; rw [r74] at g1; rw [g1] at e1; exact ⟨.bool (false), by simp [execOp, go_sem, e0, e1], (r75 _ _).mpr rfl⟩))) ?_
            refine RV.AllDo.cons 76 (RV.does_pure (fun γ v L w hl h => h) (fun γ L a w hH hl hA => by have l0 : L 70 = true := hA ⟨70, .data⟩ (by simp) rfl; have e0 := hH.slot 70 125 d70 l0; have g0 := hH.holds 70 l0; rw [r70] at g0; rw [g0] at e0; have l1 : L 75 = true := hA ⟨75, .data⟩ (by simp) rfl; have e1 := hH.slot 75 130 d75 l1; have g1 := hH.holds 75 l1; rw [r75] at g1; rw [g1] at e1; exact ⟨.bool (false), by simp [execOp, go_sem, e0, e1], (r76 _ _).mpr rfl⟩)) ?_
            exact RV.AllDo.nil
          · intro γ a5 w5 L9 hL hLo hH
            have ha := RV.held_act hH hL (by kernel_rfl) (by kernel_rfl)
            have hb8 := hH.glob
            have y0 : γ 0 = .pointer (some ⟨pb, 0, none⟩) := hH.holds 0 (hL 0 (by decide))
            have y1 : γ 1 = .int .i64 (px) := hH.holds 1 (hL 1 (by decide))
            have y2 : γ 2 = .pointer (some ⟨b8, 3, none⟩) := hH.holds 2 (hL 2 (by decide))
            have y3 : γ 3 = .int .i64 (sr) := hH.holds 3 (hL 3 (by decide))
            have y4 : γ 4 = .int .i64 (ro0) := hH.holds 4 (hL 4 (by decide))
            have y5 : γ 5 = .pointer (some ⟨sb, 0, none⟩) := hH.holds 5 (hL 5 (by decide))
            have y6 : γ 6 = .pointer (some ⟨sb, 0, none⟩) := hH.holds 6 (hL 6 (by decide))
            have y7 : γ 7 = .int .i64 (lx) := hH.holds 7 (hL 7 (by decide))
            have y8 : γ 8 = .bool (false) := hH.holds 8 (hL 8 (by decide))
            have y9 : γ 9 = .bool (false) := hH.holds 9 (hL 9 (by decide))
            have y10 : γ 10 = .pointer (some ⟨pb, 0, none⟩) := hH.holds 10 (hL 10 (by decide))
            have y11 : γ 11 = .int .i64 (px) := hH.holds 11 (hL 11 (by decide))
            have y12 : γ 12 = .pointer (some ⟨b8, 3, none⟩) := hH.holds 12 (hL 12 (by decide))
            have y13 : γ 13 = .int .i64 (sr) := hH.holds 13 (hL 13 (by decide))
            have y14 : γ 14 = .int .i64 (ro1) := hH.holds 14 (hL 14 (by decide))
            have y15 : γ 15 = .pointer (some ⟨sb, 3, none⟩) := hH.holds 15 (hL 15 (by decide))
            have y16 : γ 16 = .pointer (some ⟨sb, 3, none⟩) := hH.holds 16 (hL 16 (by decide))
            have y17 : γ 17 = .int .i64 (hx) := hH.holds 17 (hL 17 (by decide))
            have y18 : γ 18 = .bool (false) := hH.holds 18 (hL 18 (by decide))
            have y19 : γ 19 = .bool (false) := hH.holds 19 (hL 19 (by decide))
            have y20 : γ 20 = .bool (false) := hH.holds 20 (hL 20 (by decide))
            have y21 : γ 21 = .pointer (some ⟨pb, 1, none⟩) := hH.holds 21 (hL 21 (by decide))
            have y22 : γ 22 = .int .i64 (py) := hH.holds 22 (hL 22 (by decide))
            have y23 : γ 23 = .pointer (some ⟨b8, 3, none⟩) := hH.holds 23 (hL 23 (by decide))
            have y24 : γ 24 = .int .i64 (sr) := hH.holds 24 (hL 24 (by decide))
            have y25 : γ 25 = .int .i64 (ro2) := hH.holds 25 (hL 25 (by decide))
            have y26 : γ 26 = .pointer (some ⟨sb, 0, none⟩) := hH.holds 26 (hL 26 (by decide))
            have y27 : γ 27 = .pointer (some ⟨sb, 1, none⟩) := hH.holds 27 (hL 27 (by decide))
            have y28 : γ 28 = .int .i64 (ly) := hH.holds 28 (hL 28 (by decide))
            have y29 : γ 29 = .bool (false) := hH.holds 29 (hL 29 (by decide))
            have y30 : γ 30 = .bool (false) := hH.holds 30 (hL 30 (by decide))
            have y31 : γ 31 = .bool (false) := hH.holds 31 (hL 31 (by decide))
            have y32 : γ 32 = .pointer (some ⟨pb, 1, none⟩) := hH.holds 32 (hL 32 (by decide))
            have y33 : γ 33 = .int .i64 (py) := hH.holds 33 (hL 33 (by decide))
            have y34 : γ 34 = .pointer (some ⟨b8, 3, none⟩) := hH.holds 34 (hL 34 (by decide))
            have y35 : γ 35 = .int .i64 (sr) := hH.holds 35 (hL 35 (by decide))
            have y36 : γ 36 = .int .i64 (ro3) := hH.holds 36 (hL 36 (by decide))
            have y37 : γ 37 = .pointer (some ⟨sb, 3, none⟩) := hH.holds 37 (hL 37 (by decide))
            have y38 : γ 38 = .pointer (some ⟨sb, 4, none⟩) := hH.holds 38 (hL 38 (by decide))
            have y39 : γ 39 = .int .i64 (hy) := hH.holds 39 (hL 39 (by decide))
            have y40 : γ 40 = .bool (false) := hH.holds 40 (hL 40 (by decide))
            have y41 : γ 41 = .bool (false) := hH.holds 41 (hL 41 (by decide))
            have y42 : γ 42 = .bool (false) := hH.holds 42 (hL 42 (by decide))
            have y43 : γ 43 = .pointer (some ⟨pb, 2, none⟩) := hH.holds 43 (hL 43 (by decide))
            have y44 : γ 44 = .int .i64 (pz) := hH.holds 44 (hL 44 (by decide))
            have y45 : γ 45 = .pointer (some ⟨b8, 3, none⟩) := hH.holds 45 (hL 45 (by decide))
            have y46 : γ 46 = .int .i64 (sr) := hH.holds 46 (hL 46 (by decide))
            have y47 : γ 47 = .int .i64 (ro4) := hH.holds 47 (hL 47 (by decide))
            have y48 : γ 48 = .pointer (some ⟨sb, 0, none⟩) := hH.holds 48 (hL 48 (by decide))
            have y49 : γ 49 = .pointer (some ⟨sb, 2, none⟩) := hH.holds 49 (hL 49 (by decide))
            have y50 : γ 50 = .int .i64 (lz) := hH.holds 50 (hL 50 (by decide))
            have y51 : γ 51 = .bool (false) := hH.holds 51 (hL 51 (by decide))
            have y52 : γ 52 = .bool (false) := hH.holds 52 (hL 52 (by decide))
            have y53 : γ 53 = .bool (false) := hH.holds 53 (hL 53 (by decide))
            have y54 : γ 54 = .pointer (some ⟨pb, 2, none⟩) := hH.holds 54 (hL 54 (by decide))
            have y55 : γ 55 = .int .i64 (pz) := hH.holds 55 (hL 55 (by decide))
            have y56 : γ 56 = .pointer (some ⟨b8, 3, none⟩) := hH.holds 56 (hL 56 (by decide))
            have y57 : γ 57 = .int .i64 (sr) := hH.holds 57 (hL 57 (by decide))
            have y58 : γ 58 = .int .i64 (ro5) := hH.holds 58 (hL 58 (by decide))
            have y59 : γ 59 = .pointer (some ⟨sb, 3, none⟩) := hH.holds 59 (hL 59 (by decide))
            have y60 : γ 60 = .pointer (some ⟨sb, 5, none⟩) := hH.holds 60 (hL 60 (by decide))
            have y61 : γ 61 = .int .i64 (hz) := hH.holds 61 (hL 61 (by decide))
            have y62 : γ 62 = .bool (false) := hH.holds 62 (hL 62 (by decide))
            have y63 : γ 63 = .bool (false) := hH.holds 63 (hL 63 (by decide))
            have y64 : γ 64 = .bool (false) := hH.holds 64 (hL 64 (by decide))
            have y65 : γ 65 = .agg #[.int .i64 (lx), .int .i64 (ly), .int .i64 (lz), .int .i64 (hx), .int .i64 (hy), .int .i64 (hz)] := hH.holds 65 (hL 65 (by decide))
            have y66 : γ 66 = .agg #[.int .i64 (px), .int .i64 (py), .int .i64 (pz), .int .i64 (px), .int .i64 (py), .int .i64 (pz)] := hH.holds 66 (hL 66 (by decide))
            have y67 : γ 67 = .bool (true) := hH.holds 67 (hL 67 (by decide))
            have y68 : γ 68 = .bool (!(true)) := hH.holds 68 (hL 68 (by decide))
            have y69 : γ 69 = .bool (!(true)) := hH.holds 69 (hL 69 (by decide))
            have y70 : γ 70 = .bool (!(true)) := hH.holds 70 (hL 70 (by decide))
            have y71 : γ 71 = .agg #[.int .i64 (lx), .int .i64 (ly), .int .i64 (lz), .int .i64 (hx), .int .i64 (hy), .int .i64 (hz)] := hH.holds 71 (hL 71 (by decide))
            have y72 : γ 72 = .agg #[.int .i64 (px), .int .i64 (py), .int .i64 (pz), .int .i64 (px), .int .i64 (py), .int .i64 (pz)] := hH.holds 72 (hL 72 (by decide))
            have y73 : γ 73 = .agg #[.int .i64 (lx), .int .i64 (ly), .int .i64 (lz), .int .i64 (hx), .int .i64 (hy), .int .i64 (hz)] := hH.holds 73 (hL 73 (by decide))
            have y74 : γ 74 = .agg #[.int .i64 (lx), .int .i64 (ly), .int .i64 (lz), .int .i64 (hx), .int .i64 (hy), .int .i64 (hz)] := hH.holds 74 (hL 74 (by decide))
            have y75 : γ 75 = .bool (false) := hH.holds 75 (hL 75 (by decide))
            have y76 : γ 76 = .bool (false) := hH.holds 76 (hL 76 (by decide))
            rw [ha]
            clear ha hH hL hLo
            simp only [List.append_eq, List.cons_append, List.nil_append, RV.putAll, Act.put, List.setIfInBounds_toArray, List.set_cons_zero, List.set_cons_succ, Nat.zero_add, Nat.reduceAdd, y0, y1, y2, y3, y4, y5, y6, y7, y8, y9, y10, y11, y12, y13, y14, y15, y16, y17, y18, y19, y20, y21, y22, y23, y24, y25, y26, y27, y28, y29, y30, y31, y32, y33, y34, y35, y36, y37, y38, y39, y40, y41, y42, y43, y44, y45, y46, y47, y48, y49, y50, y51, y52, y53, y54, y55, y56, y57, y58, y59, y60, y61, y62, y63, y64, y65, y66, y67, y68, y69, y70, y71, y72, y73, y74, y75, y76]
            clear y0 y1 y2 y3 y4 y5 y6 y7 y8 y9 y10 y11 y12 y13 y14 y15 y16 y17 y18 y19 y20 y21 y22 y23 y24 y25 y26 y27 y28 y29 y30 y31 y32 y33 y34 y35 y36 y37 y38 y39 y40 y41 y42 y43 y44 y45 y46 y47 y48 y49 y50 y51 y52 y53 y54 y55 y56 y57 y58 y59 y60 y61 y62 y63 y64 y65 y66 y67 y68 y69 y70 y71 y72 y73 y74 y75 y76
            have HB3 : Hid _ := b_step HB2.out hb8
            clear HM HJ cp0_ cp1_ cp2_ cr3_ cs0_ cs1_ cs2_ cs3_ cs4_ cs5_ ct0_ ct1_ ct2_ ct3_ ct4_ ct5_ vo0 vo1 vo2 vo3 vo4 vo5
            go_wp2_with (fail)
            go_meet
            case rel => exact ⟨rfl, HB3⟩
        case rest =>
          obtain ⟨rfl, HB3⟩ := hcut
          clear HM HJ cp0_ cp1_ cp2_ cr3_ cs0_ cs1_ cs2_ cs3_ cs4_ cs5_ ct0_ ct1_ ct2_ ct3_ ct4_ ct5_ vo0 vo1 vo2 vo3 vo4 vo5
          go_wp2_with (fail)
          go_roundg (Px2.length - (i + 1))
          case rel => exact ⟨i + 1, by simp, by omega, rfl, HB3⟩
          case measure => have := HG.out; omega
      · obtain rfl : i = Px2.length := by omega
        have aa0 := (Cells.step CC.out HB.out 0 _ rfl).1
        go_wp2_with (fail)
        go_ret
        exact ⟨by simp [HLen.out], b_step hD.out HB.out⟩

/-! ### The row's step, after the guide's template -/
set_option maxRecDepth 100000 in
theorem lifted (os : Os) (started : os.Started) (H : Type) (enc : TypeId × Value → H) :
    ReturnsInHanded {} Tryz.checked os 6 .any (Rows.poseSpansSpec.pre6 enc Tryz.prog Tryz.f6 Rows.poseSpansRow.domain false) (Rows.poseSpansSpec.post enc Tryz.prog Tryz.f6 false true false false) := by
  refine returnsInHanded_of_change (C := Tryz.checked) own started (by kernel_rfl) Tryz.func6
    (ChangeSpec.witness6 (enc := enc) (C := Tryz.checked) false ⟨#[], #[.agg #[.int .i64 0, .int .i64 0, .int .i64 0, .int .i64 0, .int .i64 0, .slice none 0 0], .agg #[.int .i64 0, .int .i64 0, .int .i64 0, .int .i64 0, .int .i64 0, .int .i64 0, .int .i64 0]], []⟩ 8 (by kernel_rfl) (by kernel_rfl) (by kernel_rfl) (by kernel_rfl)) ?_
  intro W base args ds gs before hval0 hW hcnd _
  have hval : ∀ (j : Nat) t v, Tryz.f6.params[j]? = some t → args[j]? = some v → Value.okWide Tryz.prog W .any base t v := hval0
  have hW' := hW
  obtain ⟨p, q, hA0, hV, rfl, hfz, hnd⟩ := hW
  have hA : DataW.TrodAll enc Tryz.prog W 0 (fun _ => true) true Tryz.f6.params.toList args.toList ds p := hA0
  rw [Tryz.params6] at hA hval
  obtain ⟨v0, vs0, d0, ds0, p0, q0, hargs, rfl, rfl, h0, r0⟩ := trodAll_cons hA
  obtain ⟨v1, vs1, d1, ds1, p1, q1, rfl, rfl, rfl, h1, r1⟩ := trodAll_cons r0
  obtain ⟨rfl, rfl, rfl⟩ := trodAll_nil r1
  obtain rfl : args = #[v0, v1] := by cases args; simp_all
  obtain ⟨rfl, rfl⟩ := trodVars_none hV
  have k0 := h0
  have lt0 : ∀ x ∈ p0, x.block < W.heap.size := by obtain ⟨m, hm⟩ := k0; exact DataW.trod_lt m _ _ _ hm
  obtain ⟨k, rr, x, y, z, o, L, c, rfl, hL, hF, wk, wr, wx, wy, wz⟩ := open_raw2 (hval 0 43 v0 rfl rfl) h0
  have bk_ := bounds_i64 wk
  have br_ := bounds_i64 wr
  have bx_ := bounds_i64 wx
  have by_ := bounds_i64 wy
  have bz_ := bounds_i64 wz
  have k1 := h1
  have lt1 : ∀ x ∈ p1, x.block < W.heap.size := by obtain ⟨m, hm⟩ := k1; exact DataW.trod_lt m _ _ _ hm
  obtain ⟨y0, y1, y2, y3, y4, y5, y6, rfl, n0, n1, n2, n3, n4, n5, n6⟩ := open_rawp (hval 1 44 v1 rfl rfl) h1
  have bq0_ := bounds_i64 n0
  have bq1_ := bounds_i64 n1
  have bq2_ := bounds_i64 n2
  have bq3_ := bounds_i64 n3
  have bq4_ := bounds_i64 n4
  have bq5_ := bounds_i64 n5
  have bq6_ := bounds_i64 n6
  clear hA0 hval0
  refine (walk k rr x y z o L c y0 y1 y2 y3 y4 y5 y6 W hL hF (by omega) (by omega) (by omega) (by omega) (by omega) (by omega) (by omega) (by omega) (by omega) (by omega) (by omega) (by omega)).mono fun e W' ⟨he, bel⟩ => ?_
  subst he
  exact ⟨_, rfl, _, _, _, [], _, [], hW', trodAll_mk1 (shut_bool Tryz.underlying4 _), (trodAll_cons_mk (Below.trod laidOut (by kernel_rfl) (of_decide_eq_true (by kernel_rfl)) k0 bel lt0) (trodAll_cons_mk (Below.trod laidOut (by kernel_rfl) (of_decide_eq_true (by kernel_rfl)) k1 bel lt1) trodAll_mk0)), rfl, bel.frame _, fun h => by cases h⟩

theorem over : Rows.poseSpansRow.holds Tryz.pinned (OpenSpec.ofChange Rows.poseSpansSpec) :=
  OpenClaim.holds_of_wide 6 Tryz.f6 rfl rfl rfl rfl rfl rfl rfl ⟨rfl, rfl, rfl, rfl, rfl⟩ rfl rfl rfl rfl rfl (by kernel_rfl) Tryz.func6 (by kernel_rfl)
    (of_decide_eq_true (by kernel_rfl)) (by unfold Func.isWrapper; first | (rw [if_pos (by decide +kernel)]; kernel_rfl) | (rw [if_neg (by decide +kernel)]; exact ⟨rfl, rfl⟩))
    (fun os started H enc _ => lifted os started H enc)

end poseSpans

theorem poseSpans_holds : Rows.PoseSpansSaid := poseSpans.over
#print axioms poseSpans_holds
end Go.Proofs.YtocdompopadanaaGreat
