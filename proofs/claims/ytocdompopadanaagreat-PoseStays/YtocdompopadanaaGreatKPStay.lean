/- At no turn and no way a core's points and short directions stay; to move by whole grains and to place is the same as to place that far off: for every raw shape, raw pose and way. -/
import Derived.Test.YtocdompopadanaaGreatKPsL
import Derived.Test.YtocdompopadanaaGreatKPsU
import Derived.Test.YtocdompopadanaaGreatKOpenP
import Derived.Test.YtocdompopadanaaGreatRows
import Derived.ProofKit
import Derived.OpenShut
namespace Go.Proofs.YtocdompopadanaaGreat
namespace poseStays
open Go.ChangeShapes Go.WideShapes Go.ChangeAt Go.RowKit Go.Shelf
set_option linter.unusedVariables false

theorem own : ownKnob Tryz.prog.godebug = none := by kernel_rfl
theorem laidOut : laidOutB Tryz.prog = true := by kernel_rfl

set_option maxHeartbeats 8000000 in
set_option maxRecDepth 100000 in
theorem walk (k rr x y z : Int) (o : Option Addr) (L : List Pt) (c : Nat) (y0 y1 y2 y3 y4 y5 y6 : Int) (ox oy oz : Int) (w0 : World) (hL : Lies w0 (.slice o L.length c) L) (hF : ∀ p ∈ L, p.fits) (bk : -9223372036854775808 ≤ k ∧ k ≤ 9223372036854775807) (br : -9223372036854775808 ≤ rr ∧ rr ≤ 9223372036854775807) (bx : -9223372036854775808 ≤ x ∧ x ≤ 9223372036854775807) (by_ : -9223372036854775808 ≤ y ∧ y ≤ 9223372036854775807) (bz : -9223372036854775808 ≤ z ∧ z ≤ 9223372036854775807) (bq0 : -9223372036854775808 ≤ y0 ∧ y0 ≤ 9223372036854775807) (bq1 : -9223372036854775808 ≤ y1 ∧ y1 ≤ 9223372036854775807) (bq2 : -9223372036854775808 ≤ y2 ∧ y2 ≤ 9223372036854775807) (bq3 : -9223372036854775808 ≤ y3 ∧ y3 ≤ 9223372036854775807) (bq4 : -9223372036854775808 ≤ y4 ∧ y4 ≤ 9223372036854775807) (bq5 : -9223372036854775808 ≤ y5 ∧ y5 ≤ 9223372036854775807) (bq6 : -9223372036854775808 ≤ y6 ∧ y6 ≤ 9223372036854775807) (b0 : -9223372036854775808 ≤ ox ∧ ox ≤ 9223372036854775807) (b1 : -9223372036854775808 ≤ oy ∧ oy ≤ 9223372036854775807) (b2 : -9223372036854775808 ≤ oz ∧ oz ≤ 9223372036854775807) :
    Calls Tryz.prog 5 #[.agg #[.int .i64 k, .int .i64 rr, .int .i64 x, .int .i64 y, .int .i64 z, .slice o L.length c], .agg #[.int .i64 y0, .int .i64 y1, .int .i64 y2, .int .i64 y3, .int .i64 y4, .int .i64 y5, .int .i64 y6], .agg #[.int .i64 ox, .int .i64 oy, .int .i64 oz]] w0 fun e w' => e = .returned (.bool true) ∧ Below w0.heap.size w0 w' := by
  have AW : Hid _ := fun W => awake6_any W
  have HR : Hid _ := fun w' (h : Lies w' (.slice o L.length c) L) => right_any k rr x y z (.slice o L.length c) L w' bk br bx by_ bz h hF
  have HQ : Hid _ := fun w' => right6_any y0 y1 y2 y3 y4 y5 y6 w' bq0 bq1 bq2 bq3 bq4 bq5 bq6
  have HB0 : Hid _ := fun w' => part6_below ox 1048576 w' b0 (by decide)
  have HB1 : Hid _ := fun w' => part6_below oy 1048576 w' b1 (by decide)
  have HB2 : Hid _ := fun w' => part6_below oz 1048576 w' b2 (by decide)
  have HMI : Hid (Pt.inB ⟨partZ ox 1048576, partZ oy 1048576, partZ oz 1048576⟩ 1048576 = true) := (Pt.inB_iff _ _).2 ⟨partZ_in _ (by decide), partZ_in _ (by decide), partZ_in _ (by decide)⟩
  generalize partZ ox 1048576 = mx at *
  generalize partZ oy 1048576 = my at *
  generalize partZ oz 1048576 = mz at *
  have HL : Hid _ := hL
  clear bk br bx by_ bz hF hL bq0 bq1 bq2 bq3 bq4 bq5 bq6 b0 b1 b2
  obtain ⟨W1, hW1⟩ : ∃ W1, W1 = ((w0.alloc (.cells #[.int .i64 k, .int .i64 rr, .int .i64 x, .int .i64 y, .int .i64 z, .slice o L.length c] 43)).alloc (.cells #[.int .i64 y0, .int .i64 y1, .int .i64 y2, .int .i64 y3, .int .i64 y4, .int .i64 y5, .int .i64 y6] 44)).alloc (.cells #[.int .i64 ox, .int .i64 oy, .int .i64 oz] 31) := ⟨_, rfl⟩
  have B1 : Hid (Cells W1 w0.heap.size [.int .i64 k, .int .i64 rr, .int .i64 x, .int .i64 y, .int .i64 z, .slice o L.length c]) := by show Cells _ _ _; rw [hW1]; exact ((Cells.new w0 [.int .i64 k, .int .i64 rr, .int .i64 x, .int .i64 y, .int .i64 z, .slice o L.length c] _).step (n_after _ _)).step (n_after _ _)
  have CQ : Hid (Cells W1 (w0.heap.size + 1) [.int .i64 y0, .int .i64 y1, .int .i64 y2, .int .i64 y3, .int .i64 y4, .int .i64 y5, .int .i64 y6]) := by show Cells _ _ _; rw [hW1]; have h9 := (Cells.new (w0.alloc (.cells #[.int .i64 k, .int .i64 rr, .int .i64 x, .int .i64 y, .int .i64 z, .slice o L.length c] 43)) [.int .i64 y0, .int .i64 y1, .int .i64 y2, .int .i64 y3, .int .i64 y4, .int .i64 y5, .int .i64 y6] 44).step (n_after _ (.cells #[.int .i64 ox, .int .i64 oy, .int .i64 oz] 31)); rw [World.size_alloc] at h9; exact h9
  have CY : Hid (Cells W1 (w0.heap.size + 1 + 1) [.int .i64 ox, .int .i64 oy, .int .i64 oz]) := by show Cells _ _ _; rw [hW1]; have h9 := Cells.new ((w0.alloc (.cells #[.int .i64 k, .int .i64 rr, .int .i64 x, .int .i64 y, .int .i64 z, .slice o L.length c] 43)).alloc (.cells #[.int .i64 y0, .int .i64 y1, .int .i64 y2, .int .i64 y3, .int .i64 y4, .int .i64 y5, .int .i64 y6] 44)) [.int .i64 ox, .int .i64 oy, .int .i64 oz] 31; rw [World.size_alloc, World.size_alloc] at h9; exact h9
  have hB : Hid (Below w0.heap.size w0 W1) := by show Below _ _ _; rw [hW1]; exact b_step (b_step (n_after _ _) (n_after _ _)) (n_after _ _)
  go_enter Tryz.func5, Tryz.ntmps5
  go_wp2_with (fail)
  rw [← hW1]
  clear hW1
  obtain ⟨qb, hqb⟩ : ∃ b, b = w0.heap.size + 1 := ⟨_, rfl⟩
  obtain ⟨yb, hyb⟩ : ∃ b, b = w0.heap.size + 1 + 1 := ⟨_, rfl⟩
  rw [← hyb, ← hqb]
  rw [← hqb] at CQ
  rw [← hyb] at CY
  have hyw : w0.heap.size ≤ yb := by omega
  clear hqb hyb
  refine Calls.mono (AW.out _) ?_
  clear AW
  rintro e V ⟨rfl, h⟩
  have B1 : Hid (Cells V w0.heap.size [.int .i64 k, .int .i64 rr, .int .i64 x, .int .i64 y, .int .i64 z, .slice o L.length c]) := Cells.step B1.out h
  have CQ : Hid (Cells V qb [.int .i64 y0, .int .i64 y1, .int .i64 y2, .int .i64 y3, .int .i64 y4, .int .i64 y5, .int .i64 y6]) := Cells.step CQ.out h
  have CY : Hid (Cells V yb [.int .i64 ox, .int .i64 oy, .int .i64 oz]) := Cells.step CY.out h
  have hD : Hid _ := b_step hB.out h
  clear h hB
  have c0 := (B1.out 0 _ rfl).1
  have c1 := (B1.out 1 _ rfl).1
  have c2 := (B1.out 2 _ rfl).1
  have c3 := (B1.out 3 _ rfl).1
  have c4 := (B1.out 4 _ rfl).1
  have c5 := (B1.out 5 _ rfl).1
  go_wp2_with (fail)
  refine Calls.mono (HR.out _ (HL.out.below hD.out)) ?_
  clear HR
  rintro e V2 ⟨s, u, rfl, hRow, hGood, _⟩
  obtain ⟨ou, lu, cu, rfl⟩ := own_slice hRow.row
  have hD : Hid _ := b_step hD.out hRow.below
  have CQ : Hid _ := Cells.step CQ.out hRow.below
  have CY : Hid _ := Cells.step CY.out hRow.below
  have HC : Hid _ := core_any s (.slice ou lu cu) V2 hRow.lies
  have HK : Hid _ := hGood
  clear hRow hGood c0 c1 c2 c3 c4 c5 B1 HL
  have HAt : Hid (∀ p ∈ axesP s, p ≠ Pt.O ∧ p.short = p) := (gd_axes HK.out).one
  have HEt : Hid (∀ p ∈ edgesP s, p ≠ Pt.O ∧ p.short = p) := (gd_edges HK.out).one
  have HPn : Hid _ := gd_pts HK.out
  have HPi : Hid _ := gd_in HK.out
  have HAl : Hid _ := gd_alen HK.out
  have hPl : (ptsP s).length < 1099511627776 := by have := gd_len HK.out; omega
  have HO : Hid _ := HK.out.ok
  clear HK
  generalize axesP s = As at *
  generalize edgesP s = Es at *
  generalize ptsP s = Ps at *
  obtain ⟨sk, sr, ⟨sx, sy, sz⟩, M⟩ := s
  unfold Sh.v at *
  dsimp only at *
  go_wp2_with (fail)
  refine Calls.mono HC.out ?_
  clear HC
  rintro e V3 ⟨vp, va, ve, _, hcore⟩
  obtain ⟨rfl, hT⟩ := hcore HO.out
  have HT : Hid _ := hT
  clear hT hcore HO
  obtain ⟨op, cp, rfl, _⟩ := (Lies.of_row HT.out.rp).form
  obtain ⟨oa, ca, rfl, _⟩ := (Lies.of_row HT.out.ra).form
  obtain ⟨oe, ce, rfl, _⟩ := (Lies.of_row HT.out.re).form
  have hyV : yb < V2.heap.size := Cells.lt CY.out
  have nP1 : Hid _ := own_far (Ls := Ps) HT.out.rp hyV
  have nA1 : Hid _ := own_far (Ls := As) HT.out.ra hyV
  have nE1 : Hid _ := own_far (Ls := Es) HT.out.re hyV
  have LP : Hid _ := Lies.of_row HT.out.rp
  have LA : Hid _ := Lies.of_row HT.out.ra
  have LE : Hid _ := Lies.of_row HT.out.re
  have CQ : Hid _ := Cells.step CQ.out HT.out.below
  have CY : Hid _ := Cells.step CY.out HT.out.below
  have hD : Hid _ := b_step hD.out HT.out.below
  clear HT hyV
  have hy3 : yb < V3.heap.size := Cells.lt CY.out
  go_upto_region 5 with fail
  obtain ⟨X, hX⟩ : ∃ Z : World, Z = V3.alloc (.cells #[.slice op Ps.length cp, .slice oa As.length ca, .slice oe Es.length ce, .int .i64 sr] 24) := ⟨_, rfl⟩
  obtain ⟨b4, hb4⟩ : ∃ b, b = V3.heap.size := ⟨_, rfl⟩
  have b9 : Below V3.heap.size V3 X := by rw [hX]; exact n_after _ _
  have CC : Hid (Cells X b4 [.slice op Ps.length cp, .slice oa As.length ca, .slice oe Es.length ce, .int .i64 sr]) := by show Cells _ _ _; rw [hX, hb4]; exact Cells.new _ _ _
  rw [← hX, ← hb4]
  have nby : b4 ≠ yb := by omega
  have hbb4 : b4 < X.heap.size := Cells.lt CC.out
  clear hX hb4
  have LP : Hid _ := LP.out.below b9
  have LA : Hid _ := LA.out.below b9
  have LE : Hid _ := LE.out.below b9
  have CQ : Hid _ := Cells.step CQ.out b9
  have CY : Hid _ := Cells.step CY.out b9
  have hD : Hid _ := b_step hD.out b9
  clear b9
  have d_0 := (CC.out 0 _ rfl).1
  have d_1 := (CC.out 1 _ rfl).1
  have d_2 := (CC.out 2 _ rfl).1
  have d_3 := (CC.out 3 _ rfl).1
  have HQ1 : Hid _ := place_diag6 ⟨4294967296, 0, 0, 0⟩ (by unfold WM.Whole; decide) rows_one.2 Ps As Es HPn.out HPi.out HAt.out HEt.out hPl HAl.out.1 HAl.out.2 sr
  simp only [map_flip_id] at HQ1
  go_wp2_with (fail)
  refine Calls.mono (HQ1.out _ _ _ _ _ _ _ LP.out LA.out LE.out) ?_
  clear HQ1 d_0 d_1 d_2 d_3
  rintro e Y1 ⟨o1, k1, o2, k2, o3, k3, rfl, HL1, hb⟩
  go_upto_region 6 with fail
  have CC : Hid _ := Cells.step CC.out hb
  have LP : Hid _ := LP.out.below hb
  have LA : Hid _ := LA.out.below hb
  have LE : Hid _ := LE.out.below hb
  have CQ : Hid _ := Cells.step CQ.out hb
  have CY : Hid _ := Cells.step CY.out hb
  have hD : Hid _ := b_step hD.out hb
  clear hb
  obtain ⟨Z1, hZ1⟩ : ∃ Z : World, Z = Y1.alloc (.cells #[.slice o1 Ps.length k1, .slice o2 As.length k2, .slice o3 Es.length k3, .int .i64 sr] 24) := ⟨_, rfl⟩
  obtain ⟨db, hdb⟩ : ∃ b, b = Y1.heap.size := ⟨_, rfl⟩
  have b9 : Below Y1.heap.size Y1 Z1 := by rw [hZ1]; exact n_after _ _
  have CD : Hid (Cells Z1 db [.slice o1 Ps.length k1, .slice o2 As.length k2, .slice o3 Es.length k3, .int .i64 sr]) := by show Cells _ _ _; rw [hZ1, hdb]; exact Cells.new _ _ _
  rw [← hZ1, ← hdb]
  clear hZ1 hdb
  have CC : Hid _ := Cells.step CC.out b9
  have LP : Hid _ := LP.out.below b9
  have LA : Hid _ := LA.out.below b9
  have LE : Hid _ := LE.out.below b9
  have CQ : Hid _ := Cells.step CQ.out b9
  have CY : Hid _ := Cells.step CY.out b9
  have hD : Hid _ := b_step hD.out b9
  have LD1 : Hid _ := HL1.out.1.below b9
  have LD3 : Hid _ := HL1.out.2.2.below b9
  clear b9 HL1
  have d0_ := (CD.out 0 _ rfl).1
  have a0_ := (CC.out 0 _ rfl).1
  have HX : Hid _ := points_same6 _ _ Ps Z1 LD1.out LP.out
  go_wp2_with (fail)
  refine Calls.mono HX.out ?_
  clear HX d0_ a0_ LD1
  rintro e Z2 ⟨rfl, hb⟩
  have CC : Hid _ := Cells.step CC.out hb
  have CD : Hid _ := Cells.step CD.out hb
  have LP : Hid _ := LP.out.below hb
  have LA : Hid _ := LA.out.below hb
  have LE : Hid _ := LE.out.below hb
  have CQ : Hid _ := Cells.step CQ.out hb
  have CY : Hid _ := Cells.step CY.out hb
  have hD : Hid _ := b_step hD.out hb
  have LD3 : Hid _ := LD3.out.below hb
  clear hb
  have d1_ := (CD.out 1 _ rfl).1
  have a1_ := (CC.out 1 _ rfl).1
  have d2_ := (CD.out 2 _ rfl).1
  have a2_ := (CC.out 2 _ rfl).1
  have HX : Hid _ := points_same6 _ _ Es Z2 LD3.out LE.out
  go_wp2_with (fail)
  refine Calls.mono HX.out ?_
  clear HX d1_ a1_ d2_ a2_ LD3 CD
  rintro e Z3 ⟨rfl, hb⟩
  have CC : Hid _ := Cells.step CC.out hb
  have LP : Hid _ := LP.out.below hb
  have LA : Hid _ := LA.out.below hb
  have LE : Hid _ := LE.out.below hb
  have CQ : Hid _ := Cells.step CQ.out hb
  have CY : Hid _ := Cells.step CY.out hb
  have hD : Hid _ := b_step hD.out hb
  clear hb
  have q_0 := (CQ.out 0 _ rfl).1
  have q_1 := (CQ.out 1 _ rfl).1
  have q_2 := (CQ.out 2 _ rfl).1
  have q_3 := (CQ.out 3 _ rfl).1
  have q_4 := (CQ.out 4 _ rfl).1
  have q_5 := (CQ.out 5 _ rfl).1
  have q_6 := (CQ.out 6 _ rfl).1
  go_wp2_with (fail)
  refine Calls.mono (HQ.out _) ?_
  clear HQ q_0 q_1 q_2 q_3 q_4 q_5 q_6
  rintro e Z4 ⟨t, q, rfl, ht, hq, hb⟩
  have CC : Hid _ := Cells.step CC.out hb
  have LP : Hid _ := LP.out.below hb
  have LA : Hid _ := LA.out.below hb
  have LE : Hid _ := LE.out.below hb
  have CY : Hid _ := Cells.step CY.out hb
  have hD : Hid _ := b_step hD.out hb
  clear hb CQ
  have HP1 : Hid _ := place_right t q (inB_mono ht (by decide)) hq Ps As Es HPn.out HPi.out HAt.out HEt.out hPl HAl.out.1 HAl.out.2 sr
  have HP2 : Hid _ := fun ht' => place_right ⟨t.x + mx * 1048576, t.y + my * 1048576, t.z + mz * 1048576⟩ q ht' hq Ps As Es HPn.out HPi.out HAt.out HEt.out hPl HAl.out.1 HAl.out.2 sr
  have HTI : Hid _ := ht
  have HWQ : Hid _ := hq
  have hin := (Pt.inB_iff _ _).1 ht
  have hmi := (Pt.inB_iff _ _).1 HMI.out
  have HT2 : Hid (Pt.inB ⟨t.x + mx * 1048576, t.y + my * 1048576, t.z + mz * 1048576⟩ 5497558138880 = true) := (Pt.inB_iff _ _).2 (by dsimp only at *; omega)
  clear ht hq
  obtain ⟨tx, ty, tz⟩ := t
  obtain ⟨qw, qx, qy, qz⟩ := q
  unfold poseV at *
  dsimp only at *
  have m1_ : wrap64 (mx * 1048576) = mx * 1048576 := w64 (by omega) (by omega)
  have m2_ : wrap64 (my * 1048576) = my * 1048576 := w64 (by omega) (by omega)
  have m3_ : wrap64 (mz * 1048576) = mz * 1048576 := w64 (by omega) (by omega)
  have m4_ : wrap64 (tx + mx * 1048576) = tx + mx * 1048576 := w64 (by omega) (by omega)
  have m5_ : wrap64 (ty + my * 1048576) = ty + my * 1048576 := w64 (by omega) (by omega)
  have m6_ : wrap64 (tz + mz * 1048576) = tz + mz * 1048576 := w64 (by omega) (by omega)
  have HM : Hid _ := And.intro m1_ (And.intro m2_ (And.intro m3_ (And.intro m4_ (And.intro m5_ m6_))))
  clear hin hmi m1_ m2_ m3_ m4_ m5_ m6_
  go_upto_region 9 with fail
  obtain ⟨Z5, hZ5⟩ : ∃ Z : World, Z = Z4.alloc (.cells #[.int .i64 tx, .int .i64 ty, .int .i64 tz, .int .i64 qw, .int .i64 qx, .int .i64 qy, .int .i64 qz] 30) := ⟨_, rfl⟩
  obtain ⟨pb, hpb⟩ : ∃ b, b = Z4.heap.size := ⟨_, rfl⟩
  have b9 : Below Z4.heap.size Z4 Z5 := by rw [hZ5]; exact n_after _ _
  have CP : Hid (Cells Z5 pb [.int .i64 tx, .int .i64 ty, .int .i64 tz, .int .i64 qw, .int .i64 qx, .int .i64 qy, .int .i64 qz]) := by show Cells _ _ _; rw [hZ5, hpb]; exact Cells.new _ _ _
  rw [← hZ5, ← hpb]
  have npy : pb ≠ yb := by have h7 := Cells.lt CY.out; omega
  have np4 : b4 ≠ pb := by have h7 := Cells.lt CC.out; omega
  have npw : w0.heap.size ≤ pb := by have h7 := hD.out.size; omega
  have nP2 : Hid _ := LP.out.far (b := pb) (by omega)
  have nA2 : Hid _ := LA.out.far (b := pb) (by omega)
  have nE2 : Hid _ := LE.out.far (b := pb) (by omega)
  have hp5 : pb < Z5.heap.size := Cells.lt CP.out
  clear hZ5 hpb
  have CC : Hid _ := Cells.step CC.out b9
  have LP : Hid _ := LP.out.below b9
  have LA : Hid _ := LA.out.below b9
  have LE : Hid _ := LE.out.below b9
  have CY : Hid _ := Cells.step CY.out b9
  have hD : Hid _ := b_step hD.out b9
  clear b9
  obtain ⟨Z6, hZ6⟩ : ∃ Z : World, Z = Z5 := ⟨_, rfl⟩
  rw [← hZ6] at CC LP LA LE CY hD CP ⊢
  clear hZ6
  obtain ⟨cy0_, fy0_⟩ := CY.out 0 _ rfl
  obtain ⟨cy1_, fy1_⟩ := CY.out 1 _ rfl
  obtain ⟨cy2_, fy2_⟩ := CY.out 2 _ rfl
  go_cut [] from 66 to 75 (fun wx => ∃ w8 : World, wx = ((w8.setCell ⟨yb, 0, none⟩ (.int .i64 mx)).setCell ⟨yb, 1, none⟩ (.int .i64 my)).setCell ⟨yb, 2, none⟩ (.int .i64 mz) ∧ Hid (Below Z6.heap.size Z6 w8))
  case first =>
    refine RV.region_by (fun j v w => match j with | 0 => v = .pointer (some ⟨yb, 0, none⟩) | 1 => v = .int .i64 (ox) | 2 => v = .int .i64 (mx) | 3 => v = .pointer (some ⟨yb, 1, none⟩) | 4 => v = .int .i64 (oy) | 5 => v = .int .i64 (my) | 6 => v = .pointer (some ⟨yb, 2, none⟩) | 7 => v = .int .i64 (oz) | 8 => v = .int .i64 (mz) | 9 => v = .agg #[.int .i64 (mx), .int .i64 (my), .int .i64 (mz)] | 10 => True | _ => True) (fun γ L w9 => (L 10 = false ∧ Below Z6.heap.size Z6 w9) ∨ (L 10 = true ∧ ∃ w, Below Z6.heap.size Z6 w ∧ w9 = (((w.setCell ⟨yb, 0, none⟩ (.int .i64 (mx))).setCell ⟨yb, 1, none⟩ (.int .i64 (my))).setCell ⟨yb, 2, none⟩ (.int .i64 (mz))))) (by kernel_rfl) (by kernel_rfl) (by kernel_rfl) (by kernel_rfl) ?_ ?_ ?_
    · exact Or.inl ⟨rfl, (Below.refl _ Z6).drew⟩
    · generalize hD : dstOf _ = D
      generalize hWA : waitsFor _ = WA
      generalize hZ : Act.mk _ _ = Z
      obtain ⟨R, hR⟩ : ∃ R : Nat → Value → World → Prop, R = (fun j v w => match j with | 0 => v = .pointer (some ⟨yb, 0, none⟩) | 1 => v = .int .i64 (ox) | 2 => v = .int .i64 (mx) | 3 => v = .pointer (some ⟨yb, 1, none⟩) | 4 => v = .int .i64 (oy) | 5 => v = .int .i64 (my) | 6 => v = .pointer (some ⟨yb, 2, none⟩) | 7 => v = .int .i64 (oz) | 8 => v = .int .i64 (mz) | 9 => v = .agg #[.int .i64 (mx), .int .i64 (my), .int .i64 (mz)] | 10 => True | _ => True) := ⟨_, rfl⟩
      rw [← hR]
      have d0 : D 0 = some 66 := by rw [← hD]; rfl
      have d1 : D 1 = some 67 := by rw [← hD]; rfl
      have d2 : D 2 = some 68 := by rw [← hD]; rfl
      have d3 : D 3 = some 69 := by rw [← hD]; rfl
      have d4 : D 4 = some 70 := by rw [← hD]; rfl
      have d5 : D 5 = some 71 := by rw [← hD]; rfl
      have d6 : D 6 = some 72 := by rw [← hD]; rfl
      have d7 : D 7 = some 73 := by rw [← hD]; rfl
      have d8 : D 8 = some 74 := by rw [← hD]; rfl
      have d9 : D 9 = some 75 := by rw [← hD]; rfl
      have r0 : ∀ v w, R 0 v w = (v = .pointer (some ⟨yb, 0, none⟩)) := fun v w => by rw [hR]; rfl
      have r1 : ∀ v w, R 1 v w = (v = .int .i64 (ox)) := fun v w => by rw [hR]; rfl
      have r2 : ∀ v w, R 2 v w = (v = .int .i64 (mx)) := fun v w => by rw [hR]; rfl
      have r3 : ∀ v w, R 3 v w = (v = .pointer (some ⟨yb, 1, none⟩)) := fun v w => by rw [hR]; rfl
      have r4 : ∀ v w, R 4 v w = (v = .int .i64 (oy)) := fun v w => by rw [hR]; rfl
      have r5 : ∀ v w, R 5 v w = (v = .int .i64 (my)) := fun v w => by rw [hR]; rfl
      have r6 : ∀ v w, R 6 v w = (v = .pointer (some ⟨yb, 2, none⟩)) := fun v w => by rw [hR]; rfl
      have r7 : ∀ v w, R 7 v w = (v = .int .i64 (oz)) := fun v w => by rw [hR]; rfl
      have r8 : ∀ v w, R 8 v w = (v = .int .i64 (mz)) := fun v w => by rw [hR]; rfl
      have r9 : ∀ v w, R 9 v w = (v = .agg #[.int .i64 (mx), .int .i64 (my), .int .i64 (mz)]) := fun v w => by rw [hR]; rfl
      have r10 : ∀ v w, R 10 v w = (True) := fun v w => by rw [hR]; rfl
      have E5 : ∀ (γ : Nat → Value) (L : Nat → Bool) (a : Act) (w : World), RV.Held D WA R (fun γ L w9 => (L 10 = false ∧ Below Z6.heap.size Z6 w9) ∨ (L 10 = true ∧ ∃ w, Below Z6.heap.size Z6 w ∧ w9 = (((w.setCell ⟨yb, 0, none⟩ (.int .i64 (mx))).setCell ⟨yb, 1, none⟩ (.int .i64 (my))).setCell ⟨yb, 2, none⟩ (.int .i64 (mz))))) Z γ L a w → a.tmps[5]? = some (.pointer (some ⟨yb, 0, none⟩)) := fun γ L a w hH => (hH.rest 5 (by rw [← hD]; exact RV.dst_free (by kernel_rfl))).trans (by rw [← hZ]; rfl)
      have K : ∀ j v w w', R j v w → R j v w' := by rw [hR]; intro j v w w' h; exact h
      have A_10_1 : WA 10 1 := by rw [← hWA]; exact ⟨_, rfl, ⟨1, .phase⟩, by simp, rfl, rfl⟩
      have A_10_2 : WA 10 2 := by rw [← hWA]; exact ⟨_, rfl, ⟨2, .phase⟩, by simp, rfl, rfl⟩
      have A_10_4 : WA 10 4 := by rw [← hWA]; exact ⟨_, rfl, ⟨4, .phase⟩, by simp, rfl, rfl⟩
      have A_10_5 : WA 10 5 := by rw [← hWA]; exact ⟨_, rfl, ⟨5, .phase⟩, by simp, rfl, rfl⟩
      have A_10_7 : WA 10 7 := by rw [← hWA]; exact ⟨_, rfl, ⟨7, .phase⟩, by simp, rfl, rfl⟩
      have A_10_8 : WA 10 8 := by rw [← hWA]; exact ⟨_, rfl, ⟨8, .phase⟩, by simp, rfl, rfl⟩
      clear hD hWA hZ hR
      refine RV.AllDo.cons 0 (RV.does_pure (fun γ v L w hl h => by rw [RV.more_ne (L := L) (i := 0) (j := 10) (by decide)]; exact h) (fun γ L a w hH hl hA => by have e0 := E5 γ L a w hH; exact ⟨.pointer (some ⟨yb, 0, none⟩), by simp [execOp, go_sem, e0], (r0 _ _).mpr rfl⟩)) ?_
      refine RV.AllDo.cons 1 (RV.does_pure (fun γ v L w hl h => by rw [RV.more_ne (L := L) (i := 1) (j := 10) (by decide)]; exact h) (fun γ L a w hH hl hA => by have l0 : L 0 = true := hA ⟨0, .data⟩ (by simp) rfl; have e0 := hH.slot 0 66 d0 l0; have g0 := hH.holds 0 l0; rw [r0] at g0; rw [g0] at e0; have hB9 := early9 hH.glob (RV.not_yet hH A_10_1 hl); have z0 := c_after hB9 cy0_; exact ⟨.int .i64 (ox), by simp [execOp, go_sem, e0, z0], (r1 _ _).mpr rfl⟩)) ?_
      refine RV.AllDo.cons 2 (RV.does_call (fun γ L a w hH hl hA => by have l0 : L 1 = true := hA ⟨1, .data⟩ (by simp) rfl; have e0 := hH.slot 1 67 d1 l0; have g0 := hH.holds 1 l0; rw [r1] at g0; rw [g0] at e0; have hB9 := early9 hH.glob (RV.not_yet hH A_10_2 hl); exact ⟨20, #[.int .i64 (ox), .int .i64 (1048576)], by simp [go_sem, e0], Calls.mono (HB0.out w) (by rintro e w2 ⟨rfl, hb⟩; exact ⟨_, rfl, (r2 _ _).mpr rfl, fun j v _ h => K j v _ _ h, Or.inl ⟨by rw [RV.more_ne (L := L) (i := 2) (j := 10) (by decide)]; exact RV.not_yet hH A_10_2 hl, hB9.trans (hb.mono hB9.size)⟩⟩)⟩)) ?_
      refine RV.AllDo.cons 3 (RV.does_pure (fun γ v L w hl h => by rw [RV.more_ne (L := L) (i := 3) (j := 10) (by decide)]; exact h) (fun γ L a w hH hl hA => by have e0 := E5 γ L a w hH; exact ⟨.pointer (some ⟨yb, 1, none⟩), by simp [execOp, go_sem, e0], (r3 _ _).mpr rfl⟩)) ?_
      refine RV.AllDo.cons 4 (RV.does_pure (fun γ v L w hl h => by rw [RV.more_ne (L := L) (i := 4) (j := 10) (by decide)]; exact h) (fun γ L a w hH hl hA => by have l0 : L 3 = true := hA ⟨3, .data⟩ (by simp) rfl; have e0 := hH.slot 3 69 d3 l0; have g0 := hH.holds 3 l0; rw [r3] at g0; rw [g0] at e0; have hB9 := early9 hH.glob (RV.not_yet hH A_10_4 hl); have z0 := c_after hB9 cy1_; exact ⟨.int .i64 (oy), by simp [execOp, go_sem, e0, z0], (r4 _ _).mpr rfl⟩)) ?_
      refine RV.AllDo.cons 5 (RV.does_call (fun γ L a w hH hl hA => by have l0 : L 4 = true := hA ⟨4, .data⟩ (by simp) rfl; have e0 := hH.slot 4 70 d4 l0; have g0 := hH.holds 4 l0; rw [r4] at g0; rw [g0] at e0; have hB9 := early9 hH.glob (RV.not_yet hH A_10_5 hl); exact ⟨20, #[.int .i64 (oy), .int .i64 (1048576)], by simp [go_sem, e0], Calls.mono (HB1.out w) (by rintro e w2 ⟨rfl, hb⟩; exact ⟨_, rfl, (r5 _ _).mpr rfl, fun j v _ h => K j v _ _ h, Or.inl ⟨by rw [RV.more_ne (L := L) (i := 5) (j := 10) (by decide)]; exact RV.not_yet hH A_10_5 hl, hB9.trans (hb.mono hB9.size)⟩⟩)⟩)) ?_
      refine RV.AllDo.cons 6 (RV.does_pure (fun γ v L w hl h => by rw [RV.more_ne (L := L) (i := 6) (j := 10) (by decide)]; exact h) (fun γ L a w hH hl hA => by have e0 := E5 γ L a w hH; exact ⟨.pointer (some ⟨yb, 2, none⟩), by simp [execOp, go_sem, e0], (r6 _ _).mpr rfl⟩)) ?_
      refine RV.AllDo.cons 7 (RV.does_pure (fun γ v L w hl h => by rw [RV.more_ne (L := L) (i := 7) (j := 10) (by decide)]; exact h) (fun γ L a w hH hl hA => by have l0 : L 6 = true := hA ⟨6, .data⟩ (by simp) rfl; have e0 := hH.slot 6 72 d6 l0; have g0 := hH.holds 6 l0; rw [r6] at g0; rw [g0] at e0; have hB9 := early9 hH.glob (RV.not_yet hH A_10_7 hl); have z0 := c_after hB9 cy2_; exact ⟨.int .i64 (oz), by simp [execOp, go_sem, e0, z0], (r7 _ _).mpr rfl⟩)) ?_
      refine RV.AllDo.cons 8 (RV.does_call (fun γ L a w hH hl hA => by have l0 : L 7 = true := hA ⟨7, .data⟩ (by simp) rfl; have e0 := hH.slot 7 73 d7 l0; have g0 := hH.holds 7 l0; rw [r7] at g0; rw [g0] at e0; have hB9 := early9 hH.glob (RV.not_yet hH A_10_8 hl); exact ⟨20, #[.int .i64 (oz), .int .i64 (1048576)], by simp [go_sem, e0], Calls.mono (HB2.out w) (by rintro e w2 ⟨rfl, hb⟩; exact ⟨_, rfl, (r8 _ _).mpr rfl, fun j v _ h => K j v _ _ h, Or.inl ⟨by rw [RV.more_ne (L := L) (i := 8) (j := 10) (by decide)]; exact RV.not_yet hH A_10_8 hl, hB9.trans (hb.mono hB9.size)⟩⟩)⟩)) ?_
      refine RV.AllDo.cons 9 (RV.does_pure (fun γ v L w hl h => by rw [RV.more_ne (L := L) (i := 9) (j := 10) (by decide)]; exact h) (fun γ L a w hH hl hA => by have l0 : L 2 = true := hA ⟨2, .data⟩ (by simp) rfl; have e0 := hH.slot 2 68 d2 l0; have g0 := hH.holds 2 l0; rw [r2] at g0; rw [g0] at e0; have l1 : L 5 = true := hA ⟨5, .data⟩ (by simp) rfl; have e1 := hH.slot 5 71 d5 l1; have g1 := hH.holds 5 l1; rw [r5] at g1; rw [g1] at e1; have l2 : L 8 = true := hA ⟨8, .data⟩ (by simp) rfl; have e2 := hH.slot 8 74 d8 l2; have g2 := hH.holds 8 l2; rw [r8] at g2; rw [g2] at e2; exact ⟨.agg #[.int .i64 (mx), .int .i64 (my), .int .i64 (mz)], by simp [execOp, go_sem, e0, e1, e2], (r9 _ _).mpr rfl⟩)) ?_
      refine RV.AllDo.cons 10 (RV.does_store (fun γ L a w hH hl hA => by have e0 := E5 γ L a w hH; have l1 : L 9 = true := hA ⟨9, .data⟩ (by simp) rfl; have e1 := hH.slot 9 75 d9 l1; have g1 := hH.holds 9 l1; rw [r9] at g1; rw [g1] at e1; have hB9 := early9 hH.glob hl; have z0 := c_after hB9 cy0_; have zf0 := f_after hB9 cy0_ fy0_; have z1 := c_after hB9 cy1_; have zf1 := f_after hB9 cy1_ fy1_; have z2 := c_after hB9 cy2_; have zf2 := f_after hB9 cy2_ fy2_; exact ⟨(((w.setCell ⟨yb, 0, none⟩ (.int .i64 (mx))).setCell ⟨yb, 1, none⟩ (.int .i64 (my))).setCell ⟨yb, 2, none⟩ (.int .i64 (mz))), by simp [execOp, go_sem, e0, e1, z0, zf0, z1, zf1, z2, zf2], (r10 _ _).mpr trivial, fun j v _ h => K j v _ _ h, Or.inr ⟨RV.more_self, w, hB9, rfl⟩⟩)) ?_
      exact RV.AllDo.nil
    · intro γ a5 w5 L9 hL hLo hH
      have ha := RV.held_act hH hL (by kernel_rfl) (by kernel_rfl)
      obtain ⟨w8, hb8, rfl⟩ := late9 hH.glob (hL 10 (by decide))
      have y0 : γ 0 = .pointer (some ⟨yb, 0, none⟩) := hH.holds 0 (hL 0 (by decide))
      have y1 : γ 1 = .int .i64 (ox) := hH.holds 1 (hL 1 (by decide))
      have y2 : γ 2 = .int .i64 (mx) := hH.holds 2 (hL 2 (by decide))
      have y3 : γ 3 = .pointer (some ⟨yb, 1, none⟩) := hH.holds 3 (hL 3 (by decide))
      have y4 : γ 4 = .int .i64 (oy) := hH.holds 4 (hL 4 (by decide))
      have y5 : γ 5 = .int .i64 (my) := hH.holds 5 (hL 5 (by decide))
      have y6 : γ 6 = .pointer (some ⟨yb, 2, none⟩) := hH.holds 6 (hL 6 (by decide))
      have y7 : γ 7 = .int .i64 (oz) := hH.holds 7 (hL 7 (by decide))
      have y8 : γ 8 = .int .i64 (mz) := hH.holds 8 (hL 8 (by decide))
      have y9 : γ 9 = .agg #[.int .i64 (mx), .int .i64 (my), .int .i64 (mz)] := hH.holds 9 (hL 9 (by decide))
      rw [ha]
      clear ha hH hL hLo
      simp only [RV.putAll, Act.put, List.setIfInBounds_toArray, List.set_cons_zero, List.set_cons_succ, Nat.zero_add, Nat.reduceAdd, y0, y1, y2, y3, y4, y5, y6, y7, y8, y9]
      clear y0 y1 y2 y3 y4 y5 y6 y7 y8 y9
      have HZ : Hid _ := hb8
      go_wp2_with (fail)
      go_meet
      case rel => exact ⟨w8, rfl, HZ⟩
  case rest =>
    obtain ⟨w8, hw8, HZ⟩ := hcut
    have CY8 : Hid _ := Cells.step CY.out HZ.out
    have CY : Hid (Cells wc yb [.int .i64 mx, .int .i64 my, .int .i64 mz]) := by show Cells _ _ _; rw [hw8]; exact ((Cells.set CY8.out 0 _ (by simp)).set 1 _ (by simp)).set 2 _ (by simp)
    have CC : Hid (Cells wc b4 [.slice op Ps.length cp, .slice oa As.length ca, .slice oe Es.length ce, .int .i64 sr]) := by show Cells _ _ _; rw [hw8]; exact Cells.put3 (Cells.step CC.out HZ.out) nby _ _ _
    have CP : Hid (Cells wc pb [.int .i64 tx, .int .i64 ty, .int .i64 tz, .int .i64 qw, .int .i64 qx, .int .i64 qy, .int .i64 qz]) := by show Cells _ _ _; rw [hw8]; exact Cells.put3 (Cells.step CP.out HZ.out) npy _ _ _
    have LP : Hid (Lies wc (.slice op Ps.length cp) Ps) := by show Lies _ _ _; rw [hw8]; exact (LP.out.below HZ.out).put nP1.out _ _ _
    have LA : Hid (Lies wc (.slice oa As.length ca) As) := by show Lies _ _ _; rw [hw8]; exact (LA.out.below HZ.out).put nA1.out _ _ _
    have LE : Hid (Lies wc (.slice oe Es.length ce) Es) := by show Lies _ _ _; rw [hw8]; exact (LE.out.below HZ.out).put nE1.out _ _ _
    have hD : Hid (Below w0.heap.size w0 wc) := by show Below _ _ _; rw [hw8]; exact (((b_step hD.out HZ.out).setCell hyw _).setCell hyw _).setCell hyw _
    clear hw8 HZ CY8 HB0 HB1 HB2 cy0_ cy1_ cy2_ fy0_ fy1_ fy2_ nP1 nA1 nE1 w8
    have hpc : pb < wc.heap.size := Cells.lt CP.out
    have hyc : yb < wc.heap.size := Cells.lt CY.out
    have d_0 := (CC.out 0 _ rfl).1
    have d_1 := (CC.out 1 _ rfl).1
    have d_2 := (CC.out 2 _ rfl).1
    have d_3 := (CC.out 3 _ rfl).1
    have q_0 := (CP.out 0 _ rfl).1
    have q_1 := (CP.out 1 _ rfl).1
    have q_2 := (CP.out 2 _ rfl).1
    have q_3 := (CP.out 3 _ rfl).1
    have q_4 := (CP.out 4 _ rfl).1
    have q_5 := (CP.out 5 _ rfl).1
    have q_6 := (CP.out 6 _ rfl).1
    go_wp2_with (fail)
    refine Calls.mono (HP1.out _ _ _ _ _ _ _ LP.out LA.out LE.out) ?_
    clear HP1 d_0 d_1 d_2 d_3 q_0 q_1 q_2 q_3 q_4 q_5 q_6
    rintro e Y2 ⟨P1, A1, E1, vp, va, ve, rfl, hT, hC1⟩
    obtain ⟨o1, k1, rfl⟩ := rowp_form hT.rp
    obtain ⟨o2, k2, rfl⟩ := rowp_form hT.ra
    obtain ⟨o3, k3, rfl⟩ := rowp_form hT.re
    have nO1 : Hid _ := own_far (Ls := P1) hT.rp hpc
    have nO2 : Hid _ := own_far (Ls := A1) hT.ra hpc
    have nO3 : Hid _ := own_far (Ls := E1) hT.re hpc
    have LO1 : Hid _ := Lies.of_row hT.rp
    have LO2 : Hid _ := Lies.of_row hT.ra
    have LO3 : Hid _ := Lies.of_row hT.re
    have HC1 : Hid _ := hC1
    have hb := hT.below
    have CC : Hid _ := Cells.step CC.out hb
    have LP : Hid _ := LP.out.below hb
    have LA : Hid _ := LA.out.below hb
    have LE : Hid _ := LE.out.below hb
    have CY : Hid _ := Cells.step CY.out hb
    have CP : Hid _ := Cells.step CP.out hb
    have hD : Hid _ := b_step hD.out hb
    clear hb hT hC1 hpc hyc
    go_upto_region 11 with fail
    obtain ⟨Z7, hZ7⟩ : ∃ Z : World, Z = Y2.alloc (.cells #[.slice o1 P1.length k1, .slice o2 A1.length k2, .slice o3 E1.length k3, .int .i64 sr] 24) := ⟨_, rfl⟩
    obtain ⟨b13, hb13⟩ : ∃ b, b = Y2.heap.size := ⟨_, rfl⟩
    have b9 : Below Y2.heap.size Y2 Z7 := by rw [hZ7]; exact n_after _ _
    have CO : Hid (Cells Z7 b13 [.slice o1 P1.length k1, .slice o2 A1.length k2, .slice o3 E1.length k3, .int .i64 sr]) := by show Cells _ _ _; rw [hZ7, hb13]; exact Cells.new _ _ _
    rw [← hZ7, ← hb13]
    have n13 : b13 ≠ pb := by have h7 := Cells.lt CP.out; omega
    clear hZ7 hb13
    have CC : Hid _ := Cells.step CC.out b9
    have LP : Hid _ := LP.out.below b9
    have LA : Hid _ := LA.out.below b9
    have LE : Hid _ := LE.out.below b9
    have CY : Hid _ := Cells.step CY.out b9
    have CP : Hid _ := Cells.step CP.out b9
    have hD : Hid _ := b_step hD.out b9
    have LO1 : Hid _ := LO1.out.below b9
    have LO2 : Hid _ := LO2.out.below b9
    have LO3 : Hid _ := LO3.out.below b9
    clear b9
    have q_0 := (CP.out 0 _ rfl).1
    have q_1 := (CP.out 1 _ rfl).1
    have q_2 := (CP.out 2 _ rfl).1
    have u_0 := (CY.out 0 _ rfl).1
    have u_1 := (CY.out 1 _ rfl).1
    have u_2 := (CY.out 2 _ rfl).1
    obtain ⟨f_0, f_1, f_2⟩ : _ ∧ _ ∧ _ := ⟨(CP.out 0 _ rfl).2, (CP.out 1 _ rfl).2, (CP.out 2 _ rfl).2⟩
    obtain ⟨m1_, m2_, m3_, m4_, m5_, m6_⟩ := HM.out
    obtain ⟨nx, hnx⟩ : ∃ v, mx * 1048576 = v := ⟨_, rfl⟩
    obtain ⟨ny, hny⟩ : ∃ v, my * 1048576 = v := ⟨_, rfl⟩
    obtain ⟨nz, hnz⟩ : ∃ v, mz * 1048576 = v := ⟨_, rfl⟩
    rw [hnx] at m1_ m4_ HP2 HT2
    rw [hny] at m2_ m5_ HP2 HT2
    rw [hnz] at m3_ m6_ HP2 HT2
    have HNX : Hid _ := And.intro hnx (And.intro hny hnz)
    clear hnx hny hnz HM
    obtain ⟨ux, hux⟩ : ∃ v, tx + nx = v := ⟨_, rfl⟩
    obtain ⟨uy, huy⟩ : ∃ v, ty + ny = v := ⟨_, rfl⟩
    obtain ⟨uz, huz⟩ : ∃ v, tz + nz = v := ⟨_, rfl⟩
    rw [hux] at m4_ HP2 HT2
    rw [huy] at m5_ HP2 HT2
    rw [huz] at m6_ HP2 HT2
    have HUX : Hid _ := And.intro hux (And.intro huy huz)
    rw [← hux] at m4_
    rw [← huy] at m5_
    rw [← huz] at m6_
    have m4_ : wrap64 (tx + nx) = ux := by rw [m4_]; exact hux
    have m5_ : wrap64 (ty + ny) = uy := by rw [m5_]; exact huy
    have m6_ : wrap64 (tz + nz) = uz := by rw [m6_]; exact huz
    have HMM : Hid (wrap64 (mx * 1048576) = nx ∧ wrap64 (tx + nx) = ux ∧ wrap64 (my * 1048576) = ny ∧ wrap64 (ty + ny) = uy ∧ wrap64 (mz * 1048576) = nz ∧ wrap64 (tz + nz) = uz) := ⟨by rw [HNX.out.1]; exact m1_, m4_, by rw [HNX.out.2.1]; exact m2_, m5_, by rw [HNX.out.2.2]; exact m3_, m6_⟩
    clear hux huy huz m1_ m2_ m3_ m4_ m5_ m6_
    go_upto_region 12 with fail
    obtain ⟨Z8, hZ8⟩ : ∃ Z : World, Z = (((Z7.setCell ⟨pb, 0, none⟩ (.int .i64 (wrap64 (tx + wrap64 (mx * 1048576))))).setCell ⟨pb, 1, none⟩ (.int .i64 (wrap64 (ty + wrap64 (my * 1048576))))).setCell ⟨pb, 2, none⟩ (.int .i64 (wrap64 (tz + wrap64 (mz * 1048576))))) := ⟨_, rfl⟩
    rw [← hZ8]
    rw [HMM.out.1, HMM.out.2.1, HMM.out.2.2.1, HMM.out.2.2.2.1, HMM.out.2.2.2.2.1, HMM.out.2.2.2.2.2] at hZ8
    clear q_0 q_1 q_2 u_0 u_1 u_2 f_0 f_1 f_2 HMM
    have CP : Hid (Cells Z8 pb [.int .i64 ux, .int .i64 uy, .int .i64 uz, .int .i64 qw, .int .i64 qx, .int .i64 qy, .int .i64 qz]) := by show Cells _ _ _; rw [hZ8]; exact ((Cells.set CP.out 0 _ (by simp)).set 1 _ (by simp)).set 2 _ (by simp)
    have CC : Hid (Cells Z8 b4 [.slice op Ps.length cp, .slice oa As.length ca, .slice oe Es.length ce, .int .i64 sr]) := by show Cells _ _ _; rw [hZ8]; exact Cells.put3 CC.out np4 _ _ _
    have CO : Hid (Cells Z8 b13 [.slice o1 P1.length k1, .slice o2 A1.length k2, .slice o3 E1.length k3, .int .i64 sr]) := by show Cells _ _ _; rw [hZ8]; exact Cells.put3 CO.out n13 _ _ _
    have CY : Hid (Cells Z8 yb [.int .i64 mx, .int .i64 my, .int .i64 mz]) := by show Cells _ _ _; rw [hZ8]; exact Cells.put3 CY.out (fun e => npy e.symm) _ _ _
    have LP : Hid (Lies Z8 (.slice op Ps.length cp) Ps) := by show Lies _ _ _; rw [hZ8]; exact LP.out.put nP2.out _ _ _
    have LA : Hid (Lies Z8 (.slice oa As.length ca) As) := by show Lies _ _ _; rw [hZ8]; exact LA.out.put nA2.out _ _ _
    have LE : Hid (Lies Z8 (.slice oe Es.length ce) Es) := by show Lies _ _ _; rw [hZ8]; exact LE.out.put nE2.out _ _ _
    have LO1 : Hid (Lies Z8 (.slice o1 P1.length k1) P1) := by show Lies _ _ _; rw [hZ8]; exact LO1.out.put nO1.out _ _ _
    have LO2 : Hid (Lies Z8 (.slice o2 A1.length k2) A1) := by show Lies _ _ _; rw [hZ8]; exact LO2.out.put nO2.out _ _ _
    have LO3 : Hid (Lies Z8 (.slice o3 E1.length k3) E1) := by show Lies _ _ _; rw [hZ8]; exact LO3.out.put nO3.out _ _ _
    have hD : Hid (Below w0.heap.size w0 Z8) := by show Below _ _ _; rw [hZ8]; exact ((hD.out.setCell npw _).setCell npw _).setCell npw _
    clear hZ8 nP2 nA2 nE2 nO1 nO2 nO3
    have d_0 := (CC.out 0 _ rfl).1
    have d_1 := (CC.out 1 _ rfl).1
    have d_2 := (CC.out 2 _ rfl).1
    have d_3 := (CC.out 3 _ rfl).1
    have q_0 := (CP.out 0 _ rfl).1
    have q_1 := (CP.out 1 _ rfl).1
    have q_2 := (CP.out 2 _ rfl).1
    have q_3 := (CP.out 3 _ rfl).1
    have q_4 := (CP.out 4 _ rfl).1
    have q_5 := (CP.out 5 _ rfl).1
    have q_6 := (CP.out 6 _ rfl).1
    go_wp2_with (fail)
    refine Calls.mono (HP2.out HT2.out _ _ _ _ _ _ _ LP.out LA.out LE.out) ?_
    clear HP2 d_0 d_1 d_2 d_3 q_0 q_1 q_2 q_3 q_4 q_5 q_6
    rintro e Y3 ⟨P2, A2, Ex2, vp, va, ve, rfl, hT, hC2⟩
    have HCM9 : P1.map (fun p => p.plus ⟨mx, my, mz⟩) = P2 ∧ A1 = A2 ∧ E1 = Ex2 := by
      obtain ⟨e1, e2, e3⟩ := HUX.out
      obtain ⟨f1, f2, f3⟩ := HNX.out
      rw [← e1, ← e2, ← e3, ← f1, ← f2, ← f3] at hC2
      exact came_moved (t := ⟨tx, ty, tz⟩) (b := ⟨mx, my, mz⟩) (q := ⟨qw, qx, qy, qz⟩) HWQ.out HTI.out HMI.out HPi.out HC1.out hC2
    obtain ⟨hcm, eA, eE⟩ := HCM9
    subst eA eE
    have HCM : Hid (P1.map (fun p => p.plus ⟨mx, my, mz⟩) = P2) := hcm
    have hN1 : P1.length < 1099511627776 := by rw [HC1.out.len]; exact hPl
    have HNA : Hid (A1.length < 1099511627776) := by
      show _ < _
      rw [HC1.out.a]
      exact Nat.lt_of_le_of_lt (Nat.le_trans (List.length_filter_le _ _) (by simp)) HAl.out.1
    have HNE : Hid (E1.length < 1099511627776) := by
      show _ < _
      rw [HC1.out.e]
      exact Nat.lt_of_le_of_lt (Nat.le_trans (List.length_filter_le _ _) (by simp)) HAl.out.2
    obtain ⟨o4, k4, rfl⟩ := rowp_form hT.rp
    obtain ⟨o5, k5, rfl⟩ := rowp_form hT.ra
    obtain ⟨o6, k6, rfl⟩ := rowp_form hT.re
    have LT1 : Hid _ := Lies.of_row hT.rp
    have LT2 : Hid _ := Lies.of_row hT.ra
    have LT3 : Hid _ := Lies.of_row hT.re
    have hb := hT.below
    have CO : Hid _ := Cells.step CO.out hb
    have CY : Hid _ := Cells.step CY.out hb
    have LO1 : Hid _ := LO1.out.below hb
    have LO2 : Hid _ := LO2.out.below hb
    have LO3 : Hid _ := LO3.out.below hb
    have hD : Hid _ := b_step hD.out hb
    clear hb hT hC2 hcm HUX HNX HC1 HWQ HTI HMI HPi HPn HAt HEt HAl hPl LP LA LE CC CP
    go_upto_region 15 with fail
    obtain ⟨Z9, hZ9⟩ : ∃ Z : World, Z = Y3.alloc (.cells #[.slice o4 P2.length k4, .slice o5 A1.length k5, .slice o6 E1.length k6, .int .i64 sr] 24) := ⟨_, rfl⟩
    obtain ⟨b15, hb15⟩ : ∃ b, b = Y3.heap.size := ⟨_, rfl⟩
    have b9 : Below Y3.heap.size Y3 Z9 := by rw [hZ9]; exact n_after _ _
    have CT2 : Hid (Cells Z9 b15 [.slice o4 P2.length k4, .slice o5 A1.length k5, .slice o6 E1.length k6, .int .i64 sr]) := by show Cells _ _ _; rw [hZ9, hb15]; exact Cells.new _ _ _
    rw [← hZ9, ← hb15]
    clear hZ9 hb15
    have CO : Hid _ := Cells.step CO.out b9
    have CY : Hid _ := Cells.step CY.out b9
    have LO1 : Hid _ := LO1.out.below b9
    have LO2 : Hid _ := LO2.out.below b9
    have LO3 : Hid _ := LO3.out.below b9
    have LT1 : Hid _ := LT1.out.below b9
    have LT2 : Hid _ := LT2.out.below b9
    have LT3 : Hid _ := LT3.out.below b9
    have hD : Hid _ := b_step hD.out b9
    clear b9
    refine RV.region_by (fun j v w => match j with | 0 => v = .agg #[.slice o1 P1.length k1, .slice o2 A1.length k2, .slice o3 E1.length k3, .int .i64 sr] | 1 => v = .agg #[.int .i64 mx, .int .i64 my, .int .i64 mz] | 2 => True | 3 => v = .agg #[.slice o4 P2.length k4, .slice o5 A1.length k5, .slice o6 E1.length k6, .int .i64 sr] | 4 => v = .bool true | 5 => v = .bool true | _ => True) (fun γ L w => Below Z9.heap.size Z9 w ∧ (L 2 = true → ∃ vp va ve, γ 2 = .agg #[vp, va, ve, .int .i64 sr] ∧ Three Z9 w vp va ve P2 A1 E1)) (by kernel_rfl) (by kernel_rfl) (by kernel_rfl) (by kernel_rfl) ?_ ?_ ?_
    · exact ⟨(Below.refl _ Z9).drew, fun e => by cases e⟩
    · generalize hD : dstOf _ = D
      generalize hWA : waitsFor _ = WA
      generalize hZ : Act.mk _ _ = Z
      obtain ⟨R, hR⟩ : ∃ R : Nat → Value → World → Prop, R = (fun j v w => match j with | 0 => v = .agg #[.slice o1 P1.length k1, .slice o2 A1.length k2, .slice o3 E1.length k3, .int .i64 sr] | 1 => v = .agg #[.int .i64 mx, .int .i64 my, .int .i64 mz] | 2 => True | 3 => v = .agg #[.slice o4 P2.length k4, .slice o5 A1.length k5, .slice o6 E1.length k6, .int .i64 sr] | 4 => v = .bool true | 5 => v = .bool true | _ => True) := ⟨_, rfl⟩
      rw [← hR]
      have d0 : D 0 = some 117 := by rw [← hD]; rfl
      have d1 : D 1 = some 118 := by rw [← hD]; rfl
      have d2 : D 2 = some 119 := by rw [← hD]; rfl
      have d3 : D 3 = some 120 := by rw [← hD]; rfl
      have d4 : D 4 = some 121 := by rw [← hD]; rfl
      have d5 : D 5 = some 6 := by rw [← hD]; rfl
      have r0 : ∀ v w, R 0 v w = (v = .agg #[.slice o1 P1.length k1, .slice o2 A1.length k2, .slice o3 E1.length k3, .int .i64 sr]) := fun v w => by rw [hR]; rfl
      have r1 : ∀ v w, R 1 v w = (v = .agg #[.int .i64 mx, .int .i64 my, .int .i64 mz]) := fun v w => by rw [hR]; rfl
      have r2 : ∀ v w, R 2 v w = (True) := fun v w => by rw [hR]; rfl
      have r3 : ∀ v w, R 3 v w = (v = .agg #[.slice o4 P2.length k4, .slice o5 A1.length k5, .slice o6 E1.length k6, .int .i64 sr]) := fun v w => by rw [hR]; rfl
      have r4 : ∀ v w, R 4 v w = (v = .bool true) := fun v w => by rw [hR]; rfl
      have r5 : ∀ v w, R 5 v w = (v = .bool true) := fun v w => by rw [hR]; rfl
      have E5 : ∀ (γ : Nat → Value) (L : Nat → Bool) (a : Act) (w : World), RV.Held D WA R (fun γ L w => Below Z9.heap.size Z9 w ∧ (L 2 = true → ∃ vp va ve, γ 2 = .agg #[vp, va, ve, .int .i64 sr] ∧ Three Z9 w vp va ve P2 A1 E1)) Z γ L a w → a.tmps[5]? = some (.pointer (some ⟨yb, 0, none⟩)) := fun γ L a w hH => (hH.rest 5 (by rw [← hD]; exact RV.dst_free (by kernel_rfl))).trans (by rw [← hZ]; rfl)
      have E13 : ∀ (γ : Nat → Value) (L : Nat → Bool) (a : Act) (w : World), RV.Held D WA R (fun γ L w => Below Z9.heap.size Z9 w ∧ (L 2 = true → ∃ vp va ve, γ 2 = .agg #[vp, va, ve, .int .i64 sr] ∧ Three Z9 w vp va ve P2 A1 E1)) Z γ L a w → a.tmps[13]? = some (.pointer (some ⟨b13, 0, none⟩)) := fun γ L a w hH => (hH.rest 13 (by rw [← hD]; exact RV.dst_free (by kernel_rfl))).trans (by rw [← hZ]; rfl)
      have E15 : ∀ (γ : Nat → Value) (L : Nat → Bool) (a : Act) (w : World), RV.Held D WA R (fun γ L w => Below Z9.heap.size Z9 w ∧ (L 2 = true → ∃ vp va ve, γ 2 = .agg #[vp, va, ve, .int .i64 sr] ∧ Three Z9 w vp va ve P2 A1 E1)) Z γ L a w → a.tmps[15]? = some (.pointer (some ⟨b15, 0, none⟩)) := fun γ L a w hH => (hH.rest 15 (by rw [← hD]; exact RV.dst_free (by kernel_rfl))).trans (by rw [← hZ]; rfl)
      have K : ∀ j v w w', R j v w → R j v w' := by rw [hR]; intro j v w w' h; exact h
      clear hD hWA hZ hR
      refine RV.AllDo.cons 0 (RV.does_pure (fun γ v L w hl h => ⟨h.1, by rw [RV.more_ne (L := L) (i := 0) (j := 2) (by decide), RV.upd_ne γ (i := 0) (j := 2) _ (by decide)]; exact h.2⟩) (fun γ L a w hH hl hA => by have e0 := E13 γ L a w hH; have wz0 := (Cells.step CO.out hH.glob.1 0 _ rfl).1; have wz1 := (Cells.step CO.out hH.glob.1 1 _ rfl).1; have wz2 := (Cells.step CO.out hH.glob.1 2 _ rfl).1; have wz3 := (Cells.step CO.out hH.glob.1 3 _ rfl).1; exact ⟨.agg #[.slice o1 P1.length k1, .slice o2 A1.length k2, .slice o3 E1.length k3, .int .i64 sr], by simp [execOp, go_sem, e0, wz0, wz1, wz2, wz3], (r0 _ _).mpr rfl⟩)) ?_
      refine RV.AllDo.cons 1 (RV.does_pure (fun γ v L w hl h => ⟨h.1, by rw [RV.more_ne (L := L) (i := 1) (j := 2) (by decide), RV.upd_ne γ (i := 1) (j := 2) _ (by decide)]; exact h.2⟩) (fun γ L a w hH hl hA => by have e0 := E5 γ L a w hH; have wz0 := (Cells.step CY.out hH.glob.1 0 _ rfl).1; have wz1 := (Cells.step CY.out hH.glob.1 1 _ rfl).1; have wz2 := (Cells.step CY.out hH.glob.1 2 _ rfl).1; exact ⟨.agg #[.int .i64 mx, .int .i64 my, .int .i64 mz], by simp [execOp, go_sem, e0, wz0, wz1, wz2], (r1 _ _).mpr rfl⟩)) ?_
      refine RV.AllDo.cons 2 (RV.does_call (fun γ L a w hH hl hA => by have l0 : L 0 = true := hA ⟨0, .data⟩ (by simp) rfl; have e0 := hH.slot 0 117 d0 l0; have g0 := hH.holds 0 l0; rw [r0] at g0; rw [g0] at e0; have l1 : L 1 = true := hA ⟨1, .data⟩ (by simp) rfl; have e1 := hH.slot 1 118 d1 l1; have g1 := hH.holds 1 l1; rw [r1] at g1; rw [g1] at e1; refine ⟨10, #[.agg #[.slice o1 P1.length k1, .slice o2 A1.length k2, .slice o3 E1.length k3, .int .i64 sr], .agg #[.int .i64 mx, .int .i64 my, .int .i64 mz]], by simp [go_sem, e0, e1], Calls.mono (moved_any ⟨mx, my, mz⟩ P1 A1 E1 sr _ _ _ w (LO1.out.below hH.glob.1) (LO2.out.below hH.glob.1) (LO3.out.below hH.glob.1) hN1 HNA.out HNE.out) ?_⟩; rintro e w2 ⟨vp, va, ve, rfl, hT⟩; rw [HCM.out] at hT; refine ⟨_, rfl, (r2 _ _).mpr trivial, fun j v _ h => K j v _ _ h, b_step hH.glob.1 hT.below, fun _ => ⟨vp, va, ve, by rw [RV.upd_self], hT.up hH.glob.1⟩⟩)) ?_
      refine RV.AllDo.cons 3 (RV.does_pure (fun γ v L w hl h => ⟨h.1, by rw [RV.more_ne (L := L) (i := 3) (j := 2) (by decide), RV.upd_ne γ (i := 3) (j := 2) _ (by decide)]; exact h.2⟩) (fun γ L a w hH hl hA => by have e0 := E15 γ L a w hH; have wz0 := (Cells.step CT2.out hH.glob.1 0 _ rfl).1; have wz1 := (Cells.step CT2.out hH.glob.1 1 _ rfl).1; have wz2 := (Cells.step CT2.out hH.glob.1 2 _ rfl).1; have wz3 := (Cells.step CT2.out hH.glob.1 3 _ rfl).1; exact ⟨.agg #[.slice o4 P2.length k4, .slice o5 A1.length k5, .slice o6 E1.length k6, .int .i64 sr], by simp [execOp, go_sem, e0, wz0, wz1, wz2, wz3], (r3 _ _).mpr rfl⟩)) ?_
      refine RV.AllDo.cons 4 (RV.does_call (fun γ L a w hH hl hA => by have l0 : L 2 = true := hA ⟨2, .data⟩ (by simp) rfl; have e0 := hH.slot 2 119 d2 l0; have g0 := hH.holds 2 l0; rw [r2] at g0; have l1 : L 3 = true := hA ⟨3, .data⟩ (by simp) rfl; have e1 := hH.slot 3 120 d3 l1; have g1 := hH.holds 3 l1; rw [r3] at g1; rw [g1] at e1; obtain ⟨vp, va, ve, x1, x2⟩ := hH.glob.2 l0; rw [x1] at e0; refine ⟨12, #[.agg #[vp, va, ve, .int .i64 sr], .agg #[.slice o4 P2.length k4, .slice o5 A1.length k5, .slice o6 E1.length k6, .int .i64 sr]], by simp [go_sem, e0, e1], Calls.mono (cores6_same vp va ve _ _ _ P2 A1 E1 sr w (Lies.of_row x2.rp) (Lies.of_row x2.ra) (Lies.of_row x2.re) (LT1.out.below hH.glob.1) (LT2.out.below hH.glob.1) (LT3.out.below hH.glob.1)) ?_⟩; rintro e w2 ⟨rfl, hb⟩; refine ⟨_, rfl, (r4 _ _).mpr rfl, fun j v _ h => K j v _ _ h, b_step hH.glob.1 hb, ?_⟩; rw [RV.more_ne (L := L) (i := 4) (j := 2) (by decide), RV.upd_ne γ (i := 4) (j := 2) _ (by decide)]; exact fun _ => ⟨vp, va, ve, x1, x2.step hb⟩)) ?_
      refine RV.AllDo.cons 5 (RV.does_pure (fun γ v L w hl h => ⟨h.1, by rw [RV.more_ne (L := L) (i := 5) (j := 2) (by decide), RV.upd_ne γ (i := 5) (j := 2) _ (by decide)]; exact h.2⟩) (fun γ L a w hH hl hA => by have l0 : L 4 = true := hA ⟨4, .data⟩ (by simp) rfl; have e0 := hH.slot 4 121 d4 l0; have g0 := hH.holds 4 l0; rw [r4] at g0; rw [g0] at e0; exact ⟨.bool true, by simp [execOp, go_sem, e0], (r5 _ _).mpr rfl⟩)) ?_
      exact RV.AllDo.nil
    · intro γ a5 w5 L9 hL hLo hH
      have ha := RV.held_act hH hL (by kernel_rfl) (by kernel_rfl)
      have hG := hH.glob.1
      have e5_ : γ 5 = .bool true := hH.holds 5 (hL 5 (by decide))
      rw [ha]
      clear ha hH hL hLo
      simp only [RV.putAll, Act.put, List.setIfInBounds_toArray, List.set_cons_zero, List.set_cons_succ, Nat.zero_add, Nat.reduceAdd]
      rw [e5_]
      have HE : Hid _ := b_step hD.out hG
      clear hG
      go_wp2_with (fail)
      go_ret
      exact ⟨rfl, HE.out⟩

/-! ### The row's step, after the guide's template -/
set_option maxRecDepth 100000 in
theorem lifted (os : Os) (started : os.Started) (H : Type) (enc : TypeId × Value → H) :
    ReturnsInHanded {} Tryz.checked os 5 .any (Rows.poseStaysSpec.pre6 enc Tryz.prog Tryz.f5 Rows.poseStaysRow.domain false) (Rows.poseStaysSpec.post enc Tryz.prog Tryz.f5 false true false false) := by
  refine returnsInHanded_of_change (C := Tryz.checked) own started (by kernel_rfl) Tryz.func5
    (ChangeSpec.witness6 (enc := enc) (C := Tryz.checked) false ⟨#[], #[.agg #[.int .i64 0, .int .i64 0, .int .i64 0, .int .i64 0, .int .i64 0, .slice none 0 0], .agg #[.int .i64 0, .int .i64 0, .int .i64 0, .int .i64 0, .int .i64 0, .int .i64 0, .int .i64 0], .agg #[.int .i64 0, .int .i64 0, .int .i64 0]], []⟩ 8 (by kernel_rfl) (by kernel_rfl) (by kernel_rfl) (by kernel_rfl)) ?_
  intro W base args ds gs before hval0 hW hcnd _
  have hval : ∀ (j : Nat) t v, Tryz.f5.params[j]? = some t → args[j]? = some v → Value.okWide Tryz.prog W .any base t v := hval0
  have hW' := hW
  obtain ⟨p, q, hA0, hV, rfl, hfz, hnd⟩ := hW
  have hA : DataW.TrodAll enc Tryz.prog W 0 (fun _ => true) true Tryz.f5.params.toList args.toList ds p := hA0
  rw [Tryz.params5] at hA hval
  obtain ⟨v0, vs0, d0, ds0, p0, q0, hargs, rfl, rfl, h0, r0⟩ := trodAll_cons hA
  obtain ⟨v1, vs1, d1, ds1, p1, q1, rfl, rfl, rfl, h1, r1⟩ := trodAll_cons r0
  obtain ⟨v2, vs2, d2, ds2, p2, q2, rfl, rfl, rfl, h2, r2⟩ := trodAll_cons r1
  obtain ⟨rfl, rfl, rfl⟩ := trodAll_nil r2
  obtain rfl : args = #[v0, v1, v2] := by cases args; simp_all
  obtain ⟨rfl, rfl⟩ := trodVars_none hV
  have k0 := h0
  have lt0 : ∀ x ∈ p0, x.block < W.heap.size := by obtain ⟨m, hm⟩ := k0; exact DataW.trod_lt m _ _ _ hm
  obtain ⟨k, rr, x, y, z, o, L, c, rfl, hL, hF, wk, wr, wx, wy, wz⟩ := open_raw2 (hval 0 43 v0 rfl rfl) h0
  have bk_ := bounds_i64 wk
  have br_ := bounds_i64 wr
  have bx_ := bounds_i64 wx
  have by_ := bounds_i64 wy
  have bz_ := bounds_i64 wz
  have k1 := h1
  have lt1 : ∀ x ∈ p1, x.block < W.heap.size := by obtain ⟨m, hm⟩ := k1; exact DataW.trod_lt m _ _ _ hm
  obtain ⟨y0, y1, y2, y3, y4, y5, y6, rfl, n0, n1, n2, n3, n4, n5, n6⟩ := open_rawp (hval 1 44 v1 rfl rfl) h1
  have bq0_ := bounds_i64 n0
  have bq1_ := bounds_i64 n1
  have bq2_ := bounds_i64 n2
  have bq3_ := bounds_i64 n3
  have bq4_ := bounds_i64 n4
  have bq5_ := bounds_i64 n5
  have bq6_ := bounds_i64 n6
  have k2 := h2
  have lt2 : ∀ x ∈ p2, x.block < W.heap.size := by obtain ⟨m, hm⟩ := k2; exact DataW.trod_lt m _ _ _ hm
  obtain ⟨tx, ty, tz, rfl, _, _, nx, ny, nz⟩ := open_point (hval 2 31 v2 rfl rfl) h2
  have btx_ := bounds_i64 nx
  have bty_ := bounds_i64 ny
  have btz_ := bounds_i64 nz
  clear hA0 hval0
  refine (walk k rr x y z o L c y0 y1 y2 y3 y4 y5 y6 tx ty tz W hL hF (by omega) (by omega) (by omega) (by omega) (by omega) (by omega) (by omega) (by omega) (by omega) (by omega) (by omega) (by omega) (by omega) (by omega) (by omega)).mono fun e W' ⟨he, bel⟩ => ?_
  subst he
  exact ⟨_, rfl, _, _, _, [], _, [], hW', trodAll_mk1 (shut_bool Tryz.underlying4 _), (trodAll_cons_mk (Below.trod laidOut (by kernel_rfl) (of_decide_eq_true (by kernel_rfl)) k0 bel lt0) (trodAll_cons_mk (Below.trod laidOut (by kernel_rfl) (of_decide_eq_true (by kernel_rfl)) k1 bel lt1) (trodAll_cons_mk (Below.trod laidOut (by kernel_rfl) (of_decide_eq_true (by kernel_rfl)) k2 bel lt2) trodAll_mk0))), rfl, bel.frame _, fun h => by cases h⟩

theorem over : Rows.poseStaysRow.holds Tryz.pinned (OpenSpec.ofChange Rows.poseStaysSpec) :=
  OpenClaim.holds_of_wide 5 Tryz.f5 rfl rfl rfl rfl rfl rfl rfl ⟨rfl, rfl, rfl, rfl, rfl⟩ rfl rfl rfl rfl rfl (by kernel_rfl) Tryz.func5 (by kernel_rfl)
    (of_decide_eq_true (by kernel_rfl)) (by unfold Func.isWrapper; first | (rw [if_pos (by decide +kernel)]; kernel_rfl) | (rw [if_neg (by decide +kernel)]; exact ⟨rfl, rfl⟩))
    (fun os started H enc _ => lifted os started H enc)

end poseStays

theorem poseStays_holds : Rows.PoseStaysSaid := poseStays.over
#print axioms poseStays_holds
end Go.Proofs.YtocdompopadanaaGreat
