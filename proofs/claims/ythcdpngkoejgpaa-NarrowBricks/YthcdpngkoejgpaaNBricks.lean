/- Two bricks that stand straight are told apart by their parts: for all half edges and all ways. -/
import Derived.Test.YthcdpngkoejgpaaNBrB
import Derived.Test.YthcdpngkoejgpaaRegW
import Derived.Test.YthcdpngkoejgpaaOpenP
import Derived.Test.YthcdpngkoejgpaaRows
import Derived.ProofKit
import Derived.OpenShut
namespace Go.Proofs.Ythcdpngkoejgpaa
namespace narrowBricks
open Go.ChangeShapes Go.WideShapes Go.ChangeAt Go.RowKit Go.Shelf
set_option linter.unusedVariables false

theorem own : ownKnob Try.prog.godebug = none := by kernel_rfl
theorem laidOut : laidOutB Try.prog = true := by kernel_rfl

set_option maxHeartbeats 8000000 in
set_option maxRecDepth 100000 in
theorem walk (px py pz qx qy qz dx dy dz : Int) (w0 : World) (h_px : -9223372036854775808 ≤ px ∧ px ≤ 9223372036854775807) (h_py : -9223372036854775808 ≤ py ∧ py ≤ 9223372036854775807) (h_pz : -9223372036854775808 ≤ pz ∧ pz ≤ 9223372036854775807) (h_qx : -9223372036854775808 ≤ qx ∧ qx ≤ 9223372036854775807) (h_qy : -9223372036854775808 ≤ qy ∧ qy ≤ 9223372036854775807) (h_qz : -9223372036854775808 ≤ qz ∧ qz ≤ 9223372036854775807) (h_dx : -9223372036854775808 ≤ dx ∧ dx ≤ 9223372036854775807) (h_dy : -9223372036854775808 ≤ dy ∧ dy ≤ 9223372036854775807) (h_dz : -9223372036854775808 ≤ dz ∧ dz ≤ 9223372036854775807) :
    Calls Try.prog 8 #[.agg #[.int .i64 px, .int .i64 py, .int .i64 pz], .agg #[.int .i64 qx, .int .i64 qy, .int .i64 qz], .agg #[.int .i64 dx, .int .i64 dy, .int .i64 dz]] w0 fun e w' => e = .returned (.bool true) ∧ Below w0.heap.size w0 w' := by
  have AW : Hid _ := fun W => awake9_any W
  have HRP : Hid _ := fun w' => brright_any px py pz w' h_px h_py h_pz
  have HRQ : Hid _ := fun w' => brright_any qx qy qz w' h_qx h_qy h_qz
  have l_px := pickY_lo px (n := 1000) (by decide)
  have u_px := pickY_hi px (n := 1000) (by decide)
  obtain ⟨ux, e_ux⟩ : ∃ z, 1 + pickY px 1000 = z := ⟨_, rfl⟩
  rw [e_ux] at HRP
  have b_ux : 1 ≤ ux ∧ ux ≤ 1000 := by omega
  clear l_px u_px e_ux
  have l_py := pickY_lo py (n := 1000) (by decide)
  have u_py := pickY_hi py (n := 1000) (by decide)
  obtain ⟨uy, e_uy⟩ : ∃ z, 1 + pickY py 1000 = z := ⟨_, rfl⟩
  rw [e_uy] at HRP
  have b_uy : 1 ≤ uy ∧ uy ≤ 1000 := by omega
  clear l_py u_py e_uy
  have l_pz := pickY_lo pz (n := 1000) (by decide)
  have u_pz := pickY_hi pz (n := 1000) (by decide)
  obtain ⟨uz, e_uz⟩ : ∃ z, 1 + pickY pz 1000 = z := ⟨_, rfl⟩
  rw [e_uz] at HRP
  have b_uz : 1 ≤ uz ∧ uz ≤ 1000 := by omega
  clear l_pz u_pz e_uz
  have l_qx := pickY_lo qx (n := 1000) (by decide)
  have u_qx := pickY_hi qx (n := 1000) (by decide)
  obtain ⟨vx, e_vx⟩ : ∃ z, 1 + pickY qx 1000 = z := ⟨_, rfl⟩
  rw [e_vx] at HRQ
  have b_vx : 1 ≤ vx ∧ vx ≤ 1000 := by omega
  clear l_qx u_qx e_vx
  have l_qy := pickY_lo qy (n := 1000) (by decide)
  have u_qy := pickY_hi qy (n := 1000) (by decide)
  obtain ⟨vy, e_vy⟩ : ∃ z, 1 + pickY qy 1000 = z := ⟨_, rfl⟩
  rw [e_vy] at HRQ
  have b_vy : 1 ≤ vy ∧ vy ≤ 1000 := by omega
  clear l_qy u_qy e_vy
  have l_qz := pickY_lo qz (n := 1000) (by decide)
  have u_qz := pickY_hi qz (n := 1000) (by decide)
  obtain ⟨vz, e_vz⟩ : ∃ z, 1 + pickY qz 1000 = z := ⟨_, rfl⟩
  rw [e_vz] at HRQ
  have b_vz : 1 ≤ vz ∧ vz ≤ 1000 := by omega
  clear l_qz u_qz e_vz
  have H_ax : Hid _ := fun w' => npick_below dx 6000 w' h_dx (by decide) (by decide)
  have l_dx := pickY_lo dx (n := 6000) (by decide)
  have u_dx := pickY_hi dx (n := 6000) (by decide)
  generalize pickY dx 6000 = ax at *
  obtain ⟨kx, e_kx⟩ : ∃ z, ax - 3000 = z := ⟨_, rfl⟩
  have w_ax : IntKind.i64.wrap (ax - 3000) = kx := by rw [e_kx, IntKind.wrap_i64]; omega
  have b_kx : -3000 ≤ kx ∧ kx ≤ 3000 := by omega
  clear l_dx u_dx e_kx
  have H_ay : Hid _ := fun w' => npick_below dy 6000 w' h_dy (by decide) (by decide)
  have l_dy := pickY_lo dy (n := 6000) (by decide)
  have u_dy := pickY_hi dy (n := 6000) (by decide)
  generalize pickY dy 6000 = ay at *
  obtain ⟨ky, e_ky⟩ : ∃ z, ay - 3000 = z := ⟨_, rfl⟩
  have w_ay : IntKind.i64.wrap (ay - 3000) = ky := by rw [e_ky, IntKind.wrap_i64]; omega
  have b_ky : -3000 ≤ ky ∧ ky ≤ 3000 := by omega
  clear l_dy u_dy e_ky
  have H_az : Hid _ := fun w' => npick_below dz 6000 w' h_dz (by decide) (by decide)
  have l_dz := pickY_lo dz (n := 6000) (by decide)
  have u_dz := pickY_hi dz (n := 6000) (by decide)
  generalize pickY dz 6000 = az at *
  obtain ⟨kz, e_kz⟩ : ∃ z, az - 3000 = z := ⟨_, rfl⟩
  have w_az : IntKind.i64.wrap (az - 3000) = kz := by rw [e_kz, IntKind.wrap_i64]; omega
  have b_kz : -3000 ≤ kz ∧ kz ≤ 3000 := by omega
  clear l_dz u_dz e_kz
  clear h_px
  clear h_py
  clear h_pz
  clear h_qx
  clear h_qy
  clear h_qz
  clear h_dx
  clear h_dy
  clear h_dz
  obtain ⟨Pa, Pc, Mc, Sa, tx, ty, tz, hC1, hC2, hMV, hAP⟩ := bricks_by ⟨ux, uy, uz⟩ ⟨vx, vy, vz⟩ ⟨kx, ky, kz⟩ ⟨b_ux, b_uy, b_uz⟩ ⟨b_vx, b_vy, b_vz⟩ ⟨b_kx, b_ky, b_kz⟩
  dsimp only at hC1 hC2 hMV hAP
  have HC1 : Hid _ := hC1
  have HC2 : Hid _ := hC2
  have HMV : Hid _ := hMV
  have HAP : Hid _ := hAP
  clear hC1 hC2 hMV hAP
  have HSx : Hid _ := fun w' => size_any kx w' (by omega)
  have c_x : 0 ≤ max kx (-kx) ∧ max kx (-kx) ≤ 3000 := by omega
  generalize max kx (-kx) = sx at *
  obtain ⟨ix, e1_x⟩ : ∃ z, sx - ux = z := ⟨_, rfl⟩
  have z1_x : IntKind.i64.wrap (sx - ux) = ix := by rw [e1_x, IntKind.wrap_i64]; omega
  rw [e1_x] at HAP
  obtain ⟨jx, e2_x⟩ : ∃ z, ix - vx = z := ⟨_, rfl⟩
  have z2_x : IntKind.i64.wrap (ix - vx) = jx := by rw [e2_x, IntKind.wrap_i64]; omega
  rw [e2_x] at HAP
  have HSy : Hid _ := fun w' => size_any ky w' (by omega)
  have c_y : 0 ≤ max ky (-ky) ∧ max ky (-ky) ≤ 3000 := by omega
  generalize max ky (-ky) = sy at *
  obtain ⟨iy, e1_y⟩ : ∃ z, sy - uy = z := ⟨_, rfl⟩
  have z1_y : IntKind.i64.wrap (sy - uy) = iy := by rw [e1_y, IntKind.wrap_i64]; omega
  rw [e1_y] at HAP
  obtain ⟨jy, e2_y⟩ : ∃ z, iy - vy = z := ⟨_, rfl⟩
  have z2_y : IntKind.i64.wrap (iy - vy) = jy := by rw [e2_y, IntKind.wrap_i64]; omega
  rw [e2_y] at HAP
  have HSz : Hid _ := fun w' => size_any kz w' (by omega)
  have c_z : 0 ≤ max kz (-kz) ∧ max kz (-kz) ≤ 3000 := by omega
  generalize max kz (-kz) = sz at *
  obtain ⟨iz, e1_z⟩ : ∃ z, sz - uz = z := ⟨_, rfl⟩
  have z1_z : IntKind.i64.wrap (sz - uz) = iz := by rw [e1_z, IntKind.wrap_i64]; omega
  rw [e1_z] at HAP
  obtain ⟨jz, e2_z⟩ : ∃ z, iz - vz = z := ⟨_, rfl⟩
  have z2_z : IntKind.i64.wrap (iz - vz) = jz := by rw [e2_z, IntKind.wrap_i64]; omega
  rw [e2_z] at HAP
  clear e1_x e1_y e1_z e2_x e2_y e2_z c_x c_y c_z
  obtain ⟨m1, e_m1⟩ : ∃ z, max jy jz = z := ⟨_, rfl⟩
  rw [e_m1] at HAP
  have z_m1 : (if jy < jz then jz else jy) = m1 := by split <;> omega
  obtain ⟨gp, e_gp⟩ : ∃ z, max jx m1 = z := ⟨_, rfl⟩
  rw [e_gp] at HAP
  have z_gp : (if jx < m1 then m1 else jx) = gp := by split <;> omega
  clear e_m1 e_gp b_ux b_uy b_uz b_vx b_vy b_vz b_kx b_ky b_kz
  obtain ⟨W1, hW1⟩ : ∃ V, V = ((w0.alloc (.cells #[.int .i64 px, .int .i64 py, .int .i64 pz] 26)).alloc (.cells #[.int .i64 qx, .int .i64 qy, .int .i64 qz] 26)).alloc (.cells #[.int .i64 dx, .int .i64 dy, .int .i64 dz] 26) := ⟨_, rfl⟩
  have c9 : Hid (CelW W1 w0.heap.size [.int .i64 px, .int .i64 py, .int .i64 pz] ∧ CelW W1 (w0.heap.size + 1) [.int .i64 qx, .int .i64 qy, .int .i64 qz] ∧ CelW W1 (w0.heap.size + 1 + 1) [.int .i64 dx, .int .i64 dy, .int .i64 dz]) := by
    show _ ∧ _ ∧ _
    rw [hW1]
    refine ⟨((CelW.new w0 [.int .i64 px, .int .i64 py, .int .i64 pz] 26).step (n_after _ _)).step (n_after _ _), ?_, ?_⟩
    · have h := CelW.new (w0.alloc (.cells #[.int .i64 px, .int .i64 py, .int .i64 pz] 26)) [.int .i64 qx, .int .i64 qy, .int .i64 qz] 26
      rw [World.size_alloc] at h
      exact h.step (n_after _ _)
    · have h := CelW.new ((w0.alloc (.cells #[.int .i64 px, .int .i64 py, .int .i64 pz] 26)).alloc (.cells #[.int .i64 qx, .int .i64 qy, .int .i64 qz] 26)) [.int .i64 dx, .int .i64 dy, .int .i64 dz] 26
      rw [World.size_alloc, World.size_alloc] at h
      exact h
  have HB : Hid (Below w0.heap.size w0 W1) := by show Below _ _ _; rw [hW1]; exact b_step (b_step (n_after _ _) (n_after _ _)) (n_after _ _)
  obtain ⟨pb, hpb⟩ : ∃ b, b = w0.heap.size := ⟨_, rfl⟩
  obtain ⟨qb, hqb⟩ : ∃ b, b = w0.heap.size + 1 := ⟨_, rfl⟩
  obtain ⟨db, hdb⟩ : ∃ b, b = w0.heap.size + 1 + 1 := ⟨_, rfl⟩
  rw [← hdb, ← hqb, ← hpb] at c9
  have hpw : w0.heap.size ≤ pb ∧ w0.heap.size ≤ qb ∧ w0.heap.size ≤ db ∧ pb ≠ qb ∧ pb ≠ db ∧ qb ≠ db := by omega
  go_enter Try.func8, Try.ntmps8
  go_upto_region 1 with fail
  rw [← hW1, ← hdb, ← hqb, ← hpb]
  clear hW1 hdb hqb hpb
  have CP : Hid _ := c9.out.1
  have CQ : Hid _ := c9.out.2.1
  have CD : Hid _ := c9.out.2.2
  clear c9
  go_wp2_with (fail)
  refine Calls.mono (AW.out _) ?_
  rintro e V1 ⟨rfl, hb⟩
  have CP : Hid _ := CelW.step CP.out hb
  have CQ : Hid _ := CelW.step CQ.out hb
  have CD : Hid _ := CelW.step CD.out hb
  have HB : Hid _ := b_step HB.out hb
  clear hb AW
  have x0 := (CP.out 0 _ rfl).1
  have x1 := (CP.out 1 _ rfl).1
  have x2 := (CP.out 2 _ rfl).1
  go_wp2_with (fail)
  refine Calls.mono (HRP.out _) ?_
  clear HRP x0 x1 x2
  rintro e V2 ⟨rfl, hb⟩
  have CP : Hid _ := CelW.step CP.out hb
  have CQ : Hid _ := CelW.step CQ.out hb
  have CD : Hid _ := CelW.step CD.out hb
  have HB : Hid _ := b_step HB.out hb
  clear hb
  have x0 := (CP.out 0 _ rfl).1
  have f0 := (CP.out 0 _ rfl).2
  have x1 := (CP.out 1 _ rfl).1
  have f1 := (CP.out 1 _ rfl).2
  have x2 := (CP.out 2 _ rfl).1
  have f2 := (CP.out 2 _ rfl).2
  go_upto_region 4 with fail
  clear x0 x1 x2 f0 f1 f2
  obtain ⟨V3, hV3⟩ : ∃ V, V = ((V2.setCell ⟨pb, 0, none⟩ (.int .i64 ux)).setCell ⟨pb, 1, none⟩ (.int .i64 uy)).setCell ⟨pb, 2, none⟩ (.int .i64 uz) := ⟨_, rfl⟩
  rw [← hV3]
  have CP : Hid (CelW V3 pb [.int .i64 ux, .int .i64 uy, .int .i64 uz]) := by show CelW _ _ _; rw [hV3]; exact (((show CelW _ _ _ from CP.out).set 0 (.int .i64 ux) (by simp)).set 1 (.int .i64 uy) (by simp)).set 2 (.int .i64 uz) (by simp)
  have CQ : Hid (CelW V3 qb [.int .i64 qx, .int .i64 qy, .int .i64 qz]) := by show CelW _ _ _; rw [hV3]; exact ((((show CelW _ _ _ from CQ.out).other (Ne.symm hpw.2.2.2.1) _ _).other (Ne.symm hpw.2.2.2.1) _ _).other (Ne.symm hpw.2.2.2.1) _ _)
  have CD : Hid (CelW V3 db [.int .i64 dx, .int .i64 dy, .int .i64 dz]) := by show CelW _ _ _; rw [hV3]; exact ((((show CelW _ _ _ from CD.out).other (Ne.symm hpw.2.2.2.2.1) _ _).other (Ne.symm hpw.2.2.2.2.1) _ _).other (Ne.symm hpw.2.2.2.2.1) _ _)
  have HB : Hid (Below w0.heap.size w0 V3) := by show Below _ _ _; rw [hV3]; exact ((HB.out.setCell hpw.1 _).setCell hpw.1 _).setCell hpw.1 _
  clear hV3
  have x0 := (CQ.out 0 _ rfl).1
  have x1 := (CQ.out 1 _ rfl).1
  have x2 := (CQ.out 2 _ rfl).1
  go_wp2_with (fail)
  refine Calls.mono (HRQ.out _) ?_
  clear HRQ x0 x1 x2
  rintro e V4 ⟨rfl, hb⟩
  have CP : Hid _ := CelW.step CP.out hb
  have CQ : Hid _ := CelW.step CQ.out hb
  have CD : Hid _ := CelW.step CD.out hb
  have HB : Hid _ := b_step HB.out hb
  clear hb
  have x0 := (CQ.out 0 _ rfl).1
  have f0 := (CQ.out 0 _ rfl).2
  have x1 := (CQ.out 1 _ rfl).1
  have f1 := (CQ.out 1 _ rfl).2
  have x2 := (CQ.out 2 _ rfl).1
  have f2 := (CQ.out 2 _ rfl).2
  go_upto_region 5 with fail
  clear x0 x1 x2 f0 f1 f2
  obtain ⟨V5, hV5⟩ : ∃ V, V = ((V4.setCell ⟨qb, 0, none⟩ (.int .i64 vx)).setCell ⟨qb, 1, none⟩ (.int .i64 vy)).setCell ⟨qb, 2, none⟩ (.int .i64 vz) := ⟨_, rfl⟩
  rw [← hV5]
  have CQ : Hid (CelW V5 qb [.int .i64 vx, .int .i64 vy, .int .i64 vz]) := by show CelW _ _ _; rw [hV5]; exact (((show CelW _ _ _ from CQ.out).set 0 (.int .i64 vx) (by simp)).set 1 (.int .i64 vy) (by simp)).set 2 (.int .i64 vz) (by simp)
  have CP : Hid (CelW V5 pb [.int .i64 ux, .int .i64 uy, .int .i64 uz]) := by show CelW _ _ _; rw [hV5]; exact ((((show CelW _ _ _ from CP.out).other hpw.2.2.2.1 _ _).other hpw.2.2.2.1 _ _).other hpw.2.2.2.1 _ _)
  have CD : Hid (CelW V5 db [.int .i64 dx, .int .i64 dy, .int .i64 dz]) := by show CelW _ _ _; rw [hV5]; exact ((((show CelW _ _ _ from CD.out).other (Ne.symm hpw.2.2.2.2.2) _ _).other (Ne.symm hpw.2.2.2.2.2) _ _).other (Ne.symm hpw.2.2.2.2.2) _ _)
  have HB : Hid (Below w0.heap.size w0 V5) := by show Below _ _ _; rw [hV5]; exact ((HB.out.setCell hpw.2.1 _).setCell hpw.2.1 _).setCell hpw.2.1 _
  clear hV5
  have x0 := (CD.out 0 _ rfl).1
  have f0 := (CD.out 0 _ rfl).2
  have x1 := (CD.out 1 _ rfl).1
  have f1 := (CD.out 1 _ rfl).2
  have x2 := (CD.out 2 _ rfl).1
  have f2 := (CD.out 2 _ rfl).2
  go_cut [] from 17 to 105 (fun wx => ∃ w8 : World, wx = ((w8.setCell ⟨db, 0, none⟩ (.int .i64 kx)).setCell ⟨db, 1, none⟩ (.int .i64 ky)).setCell ⟨db, 2, none⟩ (.int .i64 kz) ∧ Hid (Below V5.heap.size V5 w8))
  case first =>
    clear CP CQ CD HB
    refine RV.region_by (fun j v w => match j with | 0 => v = .pointer (some ⟨db, 0, none⟩) | 1 => v = .int .i64 (dx) | 2 => v = .int .i64 (ax) | 3 => v = .int .i64 (kx) | 4 => v = .pointer (some ⟨db, 1, none⟩) | 5 => v = .int .i64 (dy) | 6 => v = .int .i64 (ay) | 7 => v = .int .i64 (ky) | 8 => v = .pointer (some ⟨db, 2, none⟩) | 9 => v = .int .i64 (dz) | 10 => v = .int .i64 (az) | 11 => v = .int .i64 (kz) | 12 => v = .agg #[.int .i64 (kx), .int .i64 (ky), .int .i64 (kz)] | 13 => True | _ => True) (fun γ L w9 => (L 13 = false ∧ Below V5.heap.size V5 w9) ∨ (L 13 = true ∧ ∃ w, Below V5.heap.size V5 w ∧ w9 = (((w.setCell ⟨db, 0, none⟩ (.int .i64 (kx))).setCell ⟨db, 1, none⟩ (.int .i64 (ky))).setCell ⟨db, 2, none⟩ (.int .i64 (kz))))) (by kernel_rfl) (by kernel_rfl) (by kernel_rfl) (by kernel_rfl) ?_ ?_ ?_
    · exact Or.inl ⟨rfl, (Below.refl _ V5).drew⟩
    · generalize hD : dstOf _ = D
      generalize hWA : waitsFor _ = WA
      generalize hZ : Act.mk _ _ = Z
      obtain ⟨R, hR⟩ : ∃ R : Nat → Value → World → Prop, R = (fun j v w => match j with | 0 => v = .pointer (some ⟨db, 0, none⟩) | 1 => v = .int .i64 (dx) | 2 => v = .int .i64 (ax) | 3 => v = .int .i64 (kx) | 4 => v = .pointer (some ⟨db, 1, none⟩) | 5 => v = .int .i64 (dy) | 6 => v = .int .i64 (ay) | 7 => v = .int .i64 (ky) | 8 => v = .pointer (some ⟨db, 2, none⟩) | 9 => v = .int .i64 (dz) | 10 => v = .int .i64 (az) | 11 => v = .int .i64 (kz) | 12 => v = .agg #[.int .i64 (kx), .int .i64 (ky), .int .i64 (kz)] | 13 => True | _ => True) := ⟨_, rfl⟩
      rw [← hR]
      have d0 : D 0 = some 24 := by rw [← hD]; rfl
      have d1 : D 1 = some 25 := by rw [← hD]; rfl
      have d2 : D 2 = some 26 := by rw [← hD]; rfl
      have d3 : D 3 = some 27 := by rw [← hD]; rfl
      have d4 : D 4 = some 28 := by rw [← hD]; rfl
      have d5 : D 5 = some 29 := by rw [← hD]; rfl
      have d6 : D 6 = some 30 := by rw [← hD]; rfl
      have d7 : D 7 = some 31 := by rw [← hD]; rfl
      have d8 : D 8 = some 32 := by rw [← hD]; rfl
      have d9 : D 9 = some 33 := by rw [← hD]; rfl
      have d10 : D 10 = some 34 := by rw [← hD]; rfl
      have d11 : D 11 = some 35 := by rw [← hD]; rfl
      have d12 : D 12 = some 36 := by rw [← hD]; rfl
      have r0 : ∀ v w, R 0 v w = (v = .pointer (some ⟨db, 0, none⟩)) := fun v w => by rw [hR]; rfl
      have r1 : ∀ v w, R 1 v w = (v = .int .i64 (dx)) := fun v w => by rw [hR]; rfl
      have r2 : ∀ v w, R 2 v w = (v = .int .i64 (ax)) := fun v w => by rw [hR]; rfl
      have r3 : ∀ v w, R 3 v w = (v = .int .i64 (kx)) := fun v w => by rw [hR]; rfl
      have r4 : ∀ v w, R 4 v w = (v = .pointer (some ⟨db, 1, none⟩)) := fun v w => by rw [hR]; rfl
      have r5 : ∀ v w, R 5 v w = (v = .int .i64 (dy)) := fun v w => by rw [hR]; rfl
      have r6 : ∀ v w, R 6 v w = (v = .int .i64 (ay)) := fun v w => by rw [hR]; rfl
      have r7 : ∀ v w, R 7 v w = (v = .int .i64 (ky)) := fun v w => by rw [hR]; rfl
      have r8 : ∀ v w, R 8 v w = (v = .pointer (some ⟨db, 2, none⟩)) := fun v w => by rw [hR]; rfl
      have r9 : ∀ v w, R 9 v w = (v = .int .i64 (dz)) := fun v w => by rw [hR]; rfl
      have r10 : ∀ v w, R 10 v w = (v = .int .i64 (az)) := fun v w => by rw [hR]; rfl
      have r11 : ∀ v w, R 11 v w = (v = .int .i64 (kz)) := fun v w => by rw [hR]; rfl
      have r12 : ∀ v w, R 12 v w = (v = .agg #[.int .i64 (kx), .int .i64 (ky), .int .i64 (kz)]) := fun v w => by rw [hR]; rfl
      have r13 : ∀ v w, R 13 v w = (True) := fun v w => by rw [hR]; rfl
      have E5 : ∀ (γ : Nat → Value) (L : Nat → Bool) (a : Act) (w : World), RV.Held D WA R (fun γ L w9 => (L 13 = false ∧ Below V5.heap.size V5 w9) ∨ (L 13 = true ∧ ∃ w, Below V5.heap.size V5 w ∧ w9 = (((w.setCell ⟨db, 0, none⟩ (.int .i64 (kx))).setCell ⟨db, 1, none⟩ (.int .i64 (ky))).setCell ⟨db, 2, none⟩ (.int .i64 (kz))))) Z γ L a w → a.tmps[5]? = some (.pointer (some ⟨db, 0, none⟩)) := fun γ L a w hH => (hH.rest 5 (by rw [← hD]; exact RV.dst_free (by kernel_rfl))).trans (by rw [← hZ]; rfl)
      have K : ∀ j v w w', R j v w → R j v w' := by rw [hR]; intro j v w w' h; exact h
      have A_13_1 : WA 13 1 := by rw [← hWA]; exact ⟨_, rfl, ⟨1, .phase⟩, by simp, rfl, rfl⟩
      have A_13_2 : WA 13 2 := by rw [← hWA]; exact ⟨_, rfl, ⟨2, .phase⟩, by simp, rfl, rfl⟩
      have A_13_5 : WA 13 5 := by rw [← hWA]; exact ⟨_, rfl, ⟨5, .phase⟩, by simp, rfl, rfl⟩
      have A_13_6 : WA 13 6 := by rw [← hWA]; exact ⟨_, rfl, ⟨6, .phase⟩, by simp, rfl, rfl⟩
      have A_13_9 : WA 13 9 := by rw [← hWA]; exact ⟨_, rfl, ⟨9, .phase⟩, by simp, rfl, rfl⟩
      have A_13_10 : WA 13 10 := by rw [← hWA]; exact ⟨_, rfl, ⟨10, .phase⟩, by simp, rfl, rfl⟩
      clear hD hWA hZ hR
      refine RV.AllDo.cons 0 (RV.does_pure (fun γ v L w hl h => by rw [RV.more_ne (L := L) (i := 0) (j := 13) (by decide)]; exact h) (fun γ L a w hH hl hA => by have e0 := E5 γ L a w hH; exact ⟨.pointer (some ⟨db, 0, none⟩), by simp [execOp, go_sem, e0], (r0 _ _).mpr rfl⟩)) ?_
      refine RV.AllDo.cons 1 (RV.does_pure (fun γ v L w hl h => by rw [RV.more_ne (L := L) (i := 1) (j := 13) (by decide)]; exact h) (fun γ L a w hH hl hA => by have l0 : L 0 = true := hA ⟨0, .data⟩ (by simp) rfl; have e0 := hH.slot 0 24 d0 l0; have g0 := hH.holds 0 l0; rw [r0] at g0; rw [g0] at e0; have hB9 := early9 hH.glob (RV.not_yet hH A_13_1 hl); have z0 := c_after hB9 x0; exact ⟨.int .i64 (dx), by simp [execOp, go_sem, e0, z0], (r1 _ _).mpr rfl⟩)) ?_
      refine RV.AllDo.cons 2 (RV.does_call (fun γ L a w hH hl hA => by have l0 : L 1 = true := hA ⟨1, .data⟩ (by simp) rfl; have e0 := hH.slot 1 25 d1 l0; have g0 := hH.holds 1 l0; rw [r1] at g0; rw [g0] at e0; have hB9 := early9 hH.glob (RV.not_yet hH A_13_2 hl); exact ⟨18, #[.int .i64 (dx), .int .i64 (6000)], by simp [go_sem, e0], Calls.mono (H_ax.out w) (by rintro e w2 ⟨rfl, hb⟩; exact ⟨_, rfl, (r2 _ _).mpr rfl, fun j v _ h => K j v _ _ h, Or.inl ⟨by rw [RV.more_ne (L := L) (i := 2) (j := 13) (by decide)]; exact RV.not_yet hH A_13_2 hl, hB9.trans (hb.mono hB9.size)⟩⟩)⟩)) ?_
      refine RV.AllDo.cons 3 (RV.does_pure (fun γ v L w hl h => by rw [RV.more_ne (L := L) (i := 3) (j := 13) (by decide)]; exact h) (fun γ L a w hH hl hA => by have l0 : L 2 = true := hA ⟨2, .data⟩ (by simp) rfl; have e0 := hH.slot 2 26 d2 l0; have g0 := hH.holds 2 l0; rw [r2] at g0; rw [g0] at e0; exact ⟨.int .i64 (kx), by simp [execOp, go_sem, e0, w_ax], (r3 _ _).mpr rfl⟩)) ?_
      refine RV.AllDo.cons 4 (RV.does_pure (fun γ v L w hl h => by rw [RV.more_ne (L := L) (i := 4) (j := 13) (by decide)]; exact h) (fun γ L a w hH hl hA => by have e0 := E5 γ L a w hH; exact ⟨.pointer (some ⟨db, 1, none⟩), by simp [execOp, go_sem, e0], (r4 _ _).mpr rfl⟩)) ?_
      refine RV.AllDo.cons 5 (RV.does_pure (fun γ v L w hl h => by rw [RV.more_ne (L := L) (i := 5) (j := 13) (by decide)]; exact h) (fun γ L a w hH hl hA => by have l0 : L 4 = true := hA ⟨4, .data⟩ (by simp) rfl; have e0 := hH.slot 4 28 d4 l0; have g0 := hH.holds 4 l0; rw [r4] at g0; rw [g0] at e0; have hB9 := early9 hH.glob (RV.not_yet hH A_13_5 hl); have z0 := c_after hB9 x1; exact ⟨.int .i64 (dy), by simp [execOp, go_sem, e0, z0], (r5 _ _).mpr rfl⟩)) ?_
      refine RV.AllDo.cons 6 (RV.does_call (fun γ L a w hH hl hA => by have l0 : L 5 = true := hA ⟨5, .data⟩ (by simp) rfl; have e0 := hH.slot 5 29 d5 l0; have g0 := hH.holds 5 l0; rw [r5] at g0; rw [g0] at e0; have hB9 := early9 hH.glob (RV.not_yet hH A_13_6 hl); exact ⟨18, #[.int .i64 (dy), .int .i64 (6000)], by simp [go_sem, e0], Calls.mono (H_ay.out w) (by rintro e w2 ⟨rfl, hb⟩; exact ⟨_, rfl, (r6 _ _).mpr rfl, fun j v _ h => K j v _ _ h, Or.inl ⟨by rw [RV.more_ne (L := L) (i := 6) (j := 13) (by decide)]; exact RV.not_yet hH A_13_6 hl, hB9.trans (hb.mono hB9.size)⟩⟩)⟩)) ?_
      refine RV.AllDo.cons 7 (RV.does_pure (fun γ v L w hl h => by rw [RV.more_ne (L := L) (i := 7) (j := 13) (by decide)]; exact h) (fun γ L a w hH hl hA => by have l0 : L 6 = true := hA ⟨6, .data⟩ (by simp) rfl; have e0 := hH.slot 6 30 d6 l0; have g0 := hH.holds 6 l0; rw [r6] at g0; rw [g0] at e0; exact ⟨.int .i64 (ky), by simp [execOp, go_sem, e0, w_ay], (r7 _ _).mpr rfl⟩)) ?_
      refine RV.AllDo.cons 8 (RV.does_pure (fun γ v L w hl h => by rw [RV.more_ne (L := L) (i := 8) (j := 13) (by decide)]; exact h) (fun γ L a w hH hl hA => by have e0 := E5 γ L a w hH; exact ⟨.pointer (some ⟨db, 2, none⟩), by simp [execOp, go_sem, e0], (r8 _ _).mpr rfl⟩)) ?_
      refine RV.AllDo.cons 9 (RV.does_pure (fun γ v L w hl h => by rw [RV.more_ne (L := L) (i := 9) (j := 13) (by decide)]; exact h) (fun γ L a w hH hl hA => by have l0 : L 8 = true := hA ⟨8, .data⟩ (by simp) rfl; have e0 := hH.slot 8 32 d8 l0; have g0 := hH.holds 8 l0; rw [r8] at g0; rw [g0] at e0; have hB9 := early9 hH.glob (RV.not_yet hH A_13_9 hl); have z0 := c_after hB9 x2; exact ⟨.int .i64 (dz), by simp [execOp, go_sem, e0, z0], (r9 _ _).mpr rfl⟩)) ?_
      refine RV.AllDo.cons 10 (RV.does_call (fun γ L a w hH hl hA => by have l0 : L 9 = true := hA ⟨9, .data⟩ (by simp) rfl; have e0 := hH.slot 9 33 d9 l0; have g0 := hH.holds 9 l0; rw [r9] at g0; rw [g0] at e0; have hB9 := early9 hH.glob (RV.not_yet hH A_13_10 hl); exact ⟨18, #[.int .i64 (dz), .int .i64 (6000)], by simp [go_sem, e0], Calls.mono (H_az.out w) (by rintro e w2 ⟨rfl, hb⟩; exact ⟨_, rfl, (r10 _ _).mpr rfl, fun j v _ h => K j v _ _ h, Or.inl ⟨by rw [RV.more_ne (L := L) (i := 10) (j := 13) (by decide)]; exact RV.not_yet hH A_13_10 hl, hB9.trans (hb.mono hB9.size)⟩⟩)⟩)) ?_
      refine RV.AllDo.cons 11 (RV.does_pure (fun γ v L w hl h => by rw [RV.more_ne (L := L) (i := 11) (j := 13) (by decide)]; exact h) (fun γ L a w hH hl hA => by have l0 : L 10 = true := hA ⟨10, .data⟩ (by simp) rfl; have e0 := hH.slot 10 34 d10 l0; have g0 := hH.holds 10 l0; rw [r10] at g0; rw [g0] at e0; exact ⟨.int .i64 (kz), by simp [execOp, go_sem, e0, w_az], (r11 _ _).mpr rfl⟩)) ?_
      refine RV.AllDo.cons 12 (RV.does_pure (fun γ v L w hl h => by rw [RV.more_ne (L := L) (i := 12) (j := 13) (by decide)]; exact h) (fun γ L a w hH hl hA => by have l0 : L 3 = true := hA ⟨3, .data⟩ (by simp) rfl; have e0 := hH.slot 3 27 d3 l0; have g0 := hH.holds 3 l0; rw [r3] at g0; rw [g0] at e0; have l1 : L 7 = true := hA ⟨7, .data⟩ (by simp) rfl; have e1 := hH.slot 7 31 d7 l1; have g1 := hH.holds 7 l1; rw [r7] at g1; rw [g1] at e1; have l2 : L 11 = true := hA ⟨11, .data⟩ (by simp) rfl; have e2 := hH.slot 11 35 d11 l2; have g2 := hH.holds 11 l2; rw [r11] at g2; rw [g2] at e2; exact ⟨.agg #[.int .i64 (kx), .int .i64 (ky), .int .i64 (kz)], by simp [execOp, go_sem, e0, e1, e2], (r12 _ _).mpr rfl⟩)) ?_
      refine RV.AllDo.cons 13 (RV.does_store (fun γ L a w hH hl hA => by have e0 := E5 γ L a w hH; have l1 : L 12 = true := hA ⟨12, .data⟩ (by simp) rfl; have e1 := hH.slot 12 36 d12 l1; have g1 := hH.holds 12 l1; rw [r12] at g1; rw [g1] at e1; have hB9 := early9 hH.glob hl; have z0 := c_after hB9 x0; have zf0 := f_after hB9 x0 f0; have z1 := c_after hB9 x1; have zf1 := f_after hB9 x1 f1; have z2 := c_after hB9 x2; have zf2 := f_after hB9 x2 f2; exact ⟨(((w.setCell ⟨db, 0, none⟩ (.int .i64 (kx))).setCell ⟨db, 1, none⟩ (.int .i64 (ky))).setCell ⟨db, 2, none⟩ (.int .i64 (kz))), by simp [execOp, go_sem, e0, e1, z0, zf0, z1, zf1, z2, zf2], (r13 _ _).mpr trivial, fun j v _ h => K j v _ _ h, Or.inr ⟨RV.more_self, w, hB9, rfl⟩⟩)) ?_
      exact RV.AllDo.nil
    · intro γ a5 w5 L9 hL hLo hH
      have ha := RV.held_act hH hL (by kernel_rfl) (by kernel_rfl)
      obtain ⟨w8, hb8, rfl⟩ := late9 hH.glob (hL 13 (by decide))
      have y0 : γ 0 = .pointer (some ⟨db, 0, none⟩) := hH.holds 0 (hL 0 (by decide))
      have y1 : γ 1 = .int .i64 (dx) := hH.holds 1 (hL 1 (by decide))
      have y2 : γ 2 = .int .i64 (ax) := hH.holds 2 (hL 2 (by decide))
      have y3 : γ 3 = .int .i64 (kx) := hH.holds 3 (hL 3 (by decide))
      have y4 : γ 4 = .pointer (some ⟨db, 1, none⟩) := hH.holds 4 (hL 4 (by decide))
      have y5 : γ 5 = .int .i64 (dy) := hH.holds 5 (hL 5 (by decide))
      have y6 : γ 6 = .int .i64 (ay) := hH.holds 6 (hL 6 (by decide))
      have y7 : γ 7 = .int .i64 (ky) := hH.holds 7 (hL 7 (by decide))
      have y8 : γ 8 = .pointer (some ⟨db, 2, none⟩) := hH.holds 8 (hL 8 (by decide))
      have y9 : γ 9 = .int .i64 (dz) := hH.holds 9 (hL 9 (by decide))
      have y10 : γ 10 = .int .i64 (az) := hH.holds 10 (hL 10 (by decide))
      have y11 : γ 11 = .int .i64 (kz) := hH.holds 11 (hL 11 (by decide))
      have y12 : γ 12 = .agg #[.int .i64 (kx), .int .i64 (ky), .int .i64 (kz)] := hH.holds 12 (hL 12 (by decide))
      rw [ha]
      clear ha hH hL hLo
      simp only [RV.putAll, Act.put, List.setIfInBounds_toArray, List.set_cons_zero, List.set_cons_succ, Nat.zero_add, Nat.reduceAdd, y0, y1, y2, y3, y4, y5, y6, y7, y8, y9, y10, y11, y12]
      clear y0 y1 y2 y3 y4 y5 y6 y7 y8 y9 y10 y11 y12
      have HZ : Hid _ := hb8
      go_wp2_with (fail)
      go_meet
      case rel => exact ⟨w8, rfl, HZ⟩
  case rest =>
    obtain ⟨w8, hw8, HZ⟩ := hcut
    have CD : Hid (CelW wc db [.int .i64 kx, .int .i64 ky, .int .i64 kz]) := by show CelW _ _ _; rw [hw8]; exact (((CelW.step CD.out HZ.out).set 0 (.int .i64 kx) (by simp)).set 1 (.int .i64 ky) (by simp)).set 2 (.int .i64 kz) (by simp)
    have CP : Hid (CelW wc pb [.int .i64 ux, .int .i64 uy, .int .i64 uz]) := by show CelW _ _ _; rw [hw8]; exact ((((CelW.step CP.out HZ.out).other hpw.2.2.2.2.1 _ _).other hpw.2.2.2.2.1 _ _).other hpw.2.2.2.2.1 _ _)
    have CQ : Hid (CelW wc qb [.int .i64 vx, .int .i64 vy, .int .i64 vz]) := by show CelW _ _ _; rw [hw8]; exact ((((CelW.step CQ.out HZ.out).other hpw.2.2.2.2.2 _ _).other hpw.2.2.2.2.2 _ _).other hpw.2.2.2.2.2 _ _)
    have HB : Hid (Below w0.heap.size w0 wc) := by show Below _ _ _; rw [hw8]; exact (((b_step HB.out HZ.out).setCell hpw.2.2.1 _).setCell hpw.2.2.1 _).setCell hpw.2.2.1 _
    clear hw8 HZ x0 x1 x2 f0 f1 f2 w8 H_ax H_ay H_az w_ax w_ay w_az
    have x0 := (CP.out 0 _ rfl).1
    have x1 := (CP.out 1 _ rfl).1
    have x2 := (CP.out 2 _ rfl).1
    go_wp2_with (fail)
    refine Calls.mono (HC1.out _) ?_
    clear HC1 x0 x1 x2
    rintro e V6 ⟨vp, va, ve, rfl, hT⟩
    have CP : Hid _ := CelW.step CP.out hT.below
    have CQ : Hid _ := CelW.step CQ.out hT.below
    have CD : Hid _ := CelW.step CD.out hT.below
    have HB : Hid _ := b_step HB.out hT.below
    have LP := Lies.of_row hT.rp
    have LA := Lies.of_row hT.ra
    have LE := Lies.of_row hT.re
    clear hT
    obtain ⟨op, cp, rfl, _⟩ := LP.form
    obtain ⟨oa, ca, rfl, _⟩ := LA.form
    obtain ⟨oe, ce, rfl, _⟩ := LE.form
    have HLP : Hid _ := LP
    have HLA : Hid _ := LA
    have HLE : Hid _ := LE
    clear LP LA LE
    go_upto_region 7 with fail
    obtain ⟨V7, hV7⟩ : ∃ V : World, V = V6.alloc (.cells #[.slice op Pa.length cp, .slice oa Sa.length ca, .slice oe Sa.length ce, .int .i64 0] 24) := ⟨_, rfl⟩
    obtain ⟨b9, hb9⟩ : ∃ b, b = V6.heap.size := ⟨_, rfl⟩
    have hb : Below V6.heap.size V6 V7 := by rw [hV7]; exact n_after _ _
    have C9 : Hid (CelW V7 b9 [.slice op Pa.length cp, .slice oa Sa.length ca, .slice oe Sa.length ce, .int .i64 0]) := by show CelW _ _ _; rw [hV7, hb9]; exact CelW.new _ _ _
    rw [← hV7, ← hb9]
    have CP : Hid _ := CelW.step CP.out hb
    have CQ : Hid _ := CelW.step CQ.out hb
    have CD : Hid _ := CelW.step CD.out hb
    have HB : Hid _ := b_step HB.out hb
    have HLP : Hid _ := HLP.out.below hb
    have HLA : Hid _ := HLA.out.below hb
    have HLE : Hid _ := HLE.out.below hb
    clear hb hV7 hb9
    have x0 := (CQ.out 0 _ rfl).1
    have x1 := (CQ.out 1 _ rfl).1
    have x2 := (CQ.out 2 _ rfl).1
    go_wp2_with (fail)
    refine Calls.mono (HC2.out _) ?_
    clear HC2 x0 x1 x2
    rintro e V8 ⟨vp, va, ve, rfl, hT⟩
    have CP : Hid _ := CelW.step CP.out hT.below
    have CQ : Hid _ := CelW.step CQ.out hT.below
    have CD : Hid _ := CelW.step CD.out hT.below
    have C9 : Hid _ := CelW.step C9.out hT.below
    have HB : Hid _ := b_step HB.out hT.below
    have HLP : Hid _ := HLP.out.below hT.below
    have HLA : Hid _ := HLA.out.below hT.below
    have HLE : Hid _ := HLE.out.below hT.below
    have LP := Lies.of_row hT.rp
    have LA := Lies.of_row hT.ra
    have LE := Lies.of_row hT.re
    clear hT
    obtain ⟨op2, cp2, rfl, _⟩ := LP.form
    obtain ⟨oa2, ca2, rfl, _⟩ := LA.form
    obtain ⟨oe2, ce2, rfl, _⟩ := LE.form
    have MLP : Hid _ := LP
    have MLA : Hid _ := LA
    have MLE : Hid _ := LE
    clear LP LA LE
    go_upto_region 8 with fail
    obtain ⟨X, hX⟩ : ∃ V : World, V = V8.alloc (.cells #[.slice op2 Pc.length cp2, .slice oa2 Sa.length ca2, .slice oe2 Sa.length ce2, .int .i64 0] 24) := ⟨_, rfl⟩
    obtain ⟨b11, hb11⟩ : ∃ b, b = V8.heap.size := ⟨_, rfl⟩
    have hb : Below V8.heap.size V8 X := by rw [hX]; exact n_after _ _
    have C11 : Hid (CelW X b11 [.slice op2 Pc.length cp2, .slice oa2 Sa.length ca2, .slice oe2 Sa.length ce2, .int .i64 0]) := by show CelW _ _ _; rw [hX, hb11]; exact CelW.new _ _ _
    rw [← hX, ← hb11]
    have CP : Hid _ := CelW.step CP.out hb
    have CQ : Hid _ := CelW.step CQ.out hb
    have CD : Hid _ := CelW.step CD.out hb
    have C9 : Hid _ := CelW.step C9.out hb
    have HB : Hid _ := b_step HB.out hb
    have HLP : Hid _ := HLP.out.below hb
    have HLA : Hid _ := HLA.out.below hb
    have HLE : Hid _ := HLE.out.below hb
    have MLP : Hid _ := MLP.out.below hb
    have MLA : Hid _ := MLA.out.below hb
    have MLE : Hid _ := MLE.out.below hb
    clear hb hX hb11
    go_upto_region 10 with fail
    go_cut [13, 14] from 17 to 105 (fun s13 s14 wx => ∃ b13 : Nat, s13 = .pointer (some ⟨b13, 0, none⟩) ∧ s14 = .bool true ∧ CelW wx b13 [.int .i64 tx, .int .i64 ty, .int .i64 tz, .int .i64 gp] ∧ Below X.heap.size X wx)
    case first =>
      refine RV.region_by2 (fun j v w => match j with | 0 => v = .agg #[.slice op Pa.length cp, .slice oa Sa.length ca, .slice oe Sa.length ce, .int .i64 0] | 1 => v = .agg #[.slice op2 Pc.length cp2, .slice oa2 Sa.length ca2, .slice oe2 Sa.length ce2, .int .i64 0] | 2 => v = .agg #[.int .i64 kx, .int .i64 ky, .int .i64 kz] | 3 => True | 4 => v = .tuple #[.agg #[.int .i64 tx, .int .i64 ty, .int .i64 tz, .int .i64 gp], .bool true] | 5 => v = .tuple #[.agg #[.int .i64 tx, .int .i64 ty, .int .i64 tz, .int .i64 gp], .bool true] | 6 => v = .agg #[.int .i64 tx, .int .i64 ty, .int .i64 tz, .int .i64 gp] | 7 => v = .bool true | 8 => True | 9 => True | 10 => v = .bool true | _ => True) (fun γ L w => BG X Mc Sa tx ty tz gp (γ 3) (γ 8) (L 3) (L 4) (L 8) (L 9) w) (by kernel_rfl) (by kernel_rfl) (by kernel_rfl) (by kernel_rfl) ?_ ?_ ?_
      · have b9 : Below X.heap.size X X.drew := (Below.refl _ _).drew; exact ⟨b9, (fun e => by cases e), (fun e => by cases e)⟩
      · generalize hD : dstOf _ = D
        generalize hWA : waitsFor _ = WA
        generalize hZ : Act.mk _ _ = Z
        obtain ⟨R, hR⟩ : ∃ R : Nat → Value → World → Prop, R = (fun j v w => match j with | 0 => v = .agg #[.slice op Pa.length cp, .slice oa Sa.length ca, .slice oe Sa.length ce, .int .i64 0] | 1 => v = .agg #[.slice op2 Pc.length cp2, .slice oa2 Sa.length ca2, .slice oe2 Sa.length ce2, .int .i64 0] | 2 => v = .agg #[.int .i64 kx, .int .i64 ky, .int .i64 kz] | 3 => True | 4 => v = .tuple #[.agg #[.int .i64 tx, .int .i64 ty, .int .i64 tz, .int .i64 gp], .bool true] | 5 => v = .tuple #[.agg #[.int .i64 tx, .int .i64 ty, .int .i64 tz, .int .i64 gp], .bool true] | 6 => v = .agg #[.int .i64 tx, .int .i64 ty, .int .i64 tz, .int .i64 gp] | 7 => v = .bool true | 8 => True | 9 => True | 10 => v = .bool true | _ => True) := ⟨_, rfl⟩
        rw [← hR]
        have d0 : D 0 = some 60 := by rw [← hD]; rfl
        have d1 : D 1 = some 61 := by rw [← hD]; rfl
        have d2 : D 2 = some 62 := by rw [← hD]; rfl
        have d3 : D 3 = some 63 := by rw [← hD]; rfl
        have d4 : D 4 = some 64 := by rw [← hD]; rfl
        have d5 : D 5 = some 59 := by rw [← hD]; rfl
        have d6 : D 6 = some 65 := by rw [← hD]; rfl
        have d7 : D 7 = some 66 := by rw [← hD]; rfl
        have d8 : D 8 = some 13 := by rw [← hD]; rfl
        have d10 : D 10 = some 14 := by rw [← hD]; rfl
        have r0 : ∀ v w, R 0 v w = (v = .agg #[.slice op Pa.length cp, .slice oa Sa.length ca, .slice oe Sa.length ce, .int .i64 0]) := fun v w => by rw [hR]; rfl
        have r1 : ∀ v w, R 1 v w = (v = .agg #[.slice op2 Pc.length cp2, .slice oa2 Sa.length ca2, .slice oe2 Sa.length ce2, .int .i64 0]) := fun v w => by rw [hR]; rfl
        have r2 : ∀ v w, R 2 v w = (v = .agg #[.int .i64 kx, .int .i64 ky, .int .i64 kz]) := fun v w => by rw [hR]; rfl
        have r3 : ∀ v w, R 3 v w = (True) := fun v w => by rw [hR]; rfl
        have r4 : ∀ v w, R 4 v w = (v = .tuple #[.agg #[.int .i64 tx, .int .i64 ty, .int .i64 tz, .int .i64 gp], .bool true]) := fun v w => by rw [hR]; rfl
        have r5 : ∀ v w, R 5 v w = (v = .tuple #[.agg #[.int .i64 tx, .int .i64 ty, .int .i64 tz, .int .i64 gp], .bool true]) := fun v w => by rw [hR]; rfl
        have r6 : ∀ v w, R 6 v w = (v = .agg #[.int .i64 tx, .int .i64 ty, .int .i64 tz, .int .i64 gp]) := fun v w => by rw [hR]; rfl
        have r7 : ∀ v w, R 7 v w = (v = .bool true) := fun v w => by rw [hR]; rfl
        have r8 : ∀ v w, R 8 v w = (True) := fun v w => by rw [hR]; rfl
        have r9 : ∀ v w, R 9 v w = (True) := fun v w => by rw [hR]; rfl
        have r10 : ∀ v w, R 10 v w = (v = .bool true) := fun v w => by rw [hR]; rfl
        have E5 : ∀ (γ : Nat → Value) (L : Nat → Bool) (a : Act) (w : World), RV.Held D WA R (fun γ L w => BG X Mc Sa tx ty tz gp (γ 3) (γ 8) (L 3) (L 4) (L 8) (L 9) w) Z γ L a w → a.tmps[5]? = some (.pointer (some ⟨db, 0, none⟩)) := fun γ L a w hH => (hH.rest 5 (by rw [← hD]; exact RV.dst_free (by kernel_rfl))).trans (by rw [← hZ]; rfl)
        have E9 : ∀ (γ : Nat → Value) (L : Nat → Bool) (a : Act) (w : World), RV.Held D WA R (fun γ L w => BG X Mc Sa tx ty tz gp (γ 3) (γ 8) (L 3) (L 4) (L 8) (L 9) w) Z γ L a w → a.tmps[9]? = some (.pointer (some ⟨b9, 0, none⟩)) := fun γ L a w hH => (hH.rest 9 (by rw [← hD]; exact RV.dst_free (by kernel_rfl))).trans (by rw [← hZ]; rfl)
        have E11 : ∀ (γ : Nat → Value) (L : Nat → Bool) (a : Act) (w : World), RV.Held D WA R (fun γ L w => BG X Mc Sa tx ty tz gp (γ 3) (γ 8) (L 3) (L 4) (L 8) (L 9) w) Z γ L a w → a.tmps[11]? = some (.pointer (some ⟨b11, 0, none⟩)) := fun γ L a w hH => (hH.rest 11 (by rw [← hD]; exact RV.dst_free (by kernel_rfl))).trans (by rw [← hZ]; rfl)
        have K : ∀ j v w w', R j v w → R j v w' := by rw [hR]; intro j v w w' h; exact h
        have A_6_5 : WA 6 5 := by rw [← hWA]; exact ⟨_, rfl, ⟨5, .data⟩, by simp, rfl, rfl⟩
        have A_5_4 : WA 5 4 := by rw [← hWA]; exact ⟨_, rfl, ⟨4, .data⟩, by simp, rfl, rfl⟩
        have A_9_8 : WA 9 8 := by rw [← hWA]; exact ⟨_, rfl, ⟨8, .data⟩, by simp, rfl, rfl⟩
        clear hD hWA hZ hR
        refine RV.AllDo.cons 0 (RV.does_pure (fun γ v L w hl h => by rw [RV.upd_ne γ (i := 0) (j := 3) _ (by decide), RV.upd_ne γ (i := 0) (j := 8) _ (by decide), RV.more_ne (L := L) (i := 0) (j := 3) (by decide), RV.more_ne (L := L) (i := 0) (j := 4) (by decide), RV.more_ne (L := L) (i := 0) (j := 8) (by decide), RV.more_ne (L := L) (i := 0) (j := 9) (by decide)]; exact h) (fun γ L a w hH hl hA => by have e0 := E9 γ L a w hH; have wz0 := (CelW.step C9.out hH.glob.be 0 _ rfl).1; have wz1 := (CelW.step C9.out hH.glob.be 1 _ rfl).1; have wz2 := (CelW.step C9.out hH.glob.be 2 _ rfl).1; have wz3 := (CelW.step C9.out hH.glob.be 3 _ rfl).1; exact ⟨.agg #[.slice op Pa.length cp, .slice oa Sa.length ca, .slice oe Sa.length ce, .int .i64 0], by simp [execOp, go_sem, e0, wz0, wz1, wz2, wz3], (r0 _ _).mpr rfl⟩)) ?_
        refine RV.AllDo.cons 1 (RV.does_pure (fun γ v L w hl h => by rw [RV.upd_ne γ (i := 1) (j := 3) _ (by decide), RV.upd_ne γ (i := 1) (j := 8) _ (by decide), RV.more_ne (L := L) (i := 1) (j := 3) (by decide), RV.more_ne (L := L) (i := 1) (j := 4) (by decide), RV.more_ne (L := L) (i := 1) (j := 8) (by decide), RV.more_ne (L := L) (i := 1) (j := 9) (by decide)]; exact h) (fun γ L a w hH hl hA => by have e0 := E11 γ L a w hH; have wz0 := (CelW.step C11.out hH.glob.be 0 _ rfl).1; have wz1 := (CelW.step C11.out hH.glob.be 1 _ rfl).1; have wz2 := (CelW.step C11.out hH.glob.be 2 _ rfl).1; have wz3 := (CelW.step C11.out hH.glob.be 3 _ rfl).1; exact ⟨.agg #[.slice op2 Pc.length cp2, .slice oa2 Sa.length ca2, .slice oe2 Sa.length ce2, .int .i64 0], by simp [execOp, go_sem, e0, wz0, wz1, wz2, wz3], (r1 _ _).mpr rfl⟩)) ?_
        refine RV.AllDo.cons 2 (RV.does_pure (fun γ v L w hl h => by rw [RV.upd_ne γ (i := 2) (j := 3) _ (by decide), RV.upd_ne γ (i := 2) (j := 8) _ (by decide), RV.more_ne (L := L) (i := 2) (j := 3) (by decide), RV.more_ne (L := L) (i := 2) (j := 4) (by decide), RV.more_ne (L := L) (i := 2) (j := 8) (by decide), RV.more_ne (L := L) (i := 2) (j := 9) (by decide)]; exact h) (fun γ L a w hH hl hA => by have e0 := E5 γ L a w hH; have wz0 := (CelW.step CD.out hH.glob.be 0 _ rfl).1; have wz1 := (CelW.step CD.out hH.glob.be 1 _ rfl).1; have wz2 := (CelW.step CD.out hH.glob.be 2 _ rfl).1; exact ⟨.agg #[.int .i64 kx, .int .i64 ky, .int .i64 kz], by simp [execOp, go_sem, e0, wz0, wz1, wz2], (r2 _ _).mpr rfl⟩)) ?_
        refine RV.AllDo.cons 3 (RV.does_call (fun γ L a w hH hl hA => by have l0 : L 1 = true := hA ⟨1, .data⟩ (by simp) rfl; have e0 := hH.slot 1 61 d1 l0; have g0 := hH.holds 1 l0; rw [r1] at g0; rw [g0] at e0; have l1 : L 2 = true := hA ⟨2, .data⟩ (by simp) rfl; have e1 := hH.slot 2 62 d2 l1; have g1 := hH.holds 2 l1; rw [r2] at g1; rw [g1] at e1; refine ⟨19, #[.agg #[.slice op2 Pc.length cp2, .slice oa2 Sa.length ca2, .slice oe2 Sa.length ce2, .int .i64 0], .agg #[.int .i64 kx, .int .i64 ky, .int .i64 kz]], by simp [go_sem, e0, e1], Calls.mono (HMV.out w _ _ _ (MLP.out.below hH.glob.be) (MLA.out.below hH.glob.be) (MLE.out.below hH.glob.be)) ?_⟩; rintro e w2 ⟨up_, ua_, ue_, rfl, hT⟩; refine ⟨_, rfl, (r3 _ _).mpr trivial, fun j v _ h => K j v _ _ h, ?_⟩; rw [RV.upd_ne γ (i := 3) (j := 8) _ (by decide), RV.more_ne (L := L) (i := 3) (j := 4) (by decide), RV.more_ne (L := L) (i := 3) (j := 8) (by decide), RV.more_ne (L := L) (i := 3) (j := 9) (by decide), RV.upd_self, RV.more_self]; exact hH.glob.got hT)) ?_
        refine RV.AllDo.cons 4 (RV.does_call (fun γ L a w hH hl hA => by have l0 : L 0 = true := hA ⟨0, .data⟩ (by simp) rfl; have e0 := hH.slot 0 60 d0 l0; have g0 := hH.holds 0 l0; rw [r0] at g0; rw [g0] at e0; have l1 : L 3 = true := hA ⟨3, .data⟩ (by simp) rfl; have e1 := hH.slot 3 63 d3 l1; have g1 := hH.holds 3 l1; rw [r3] at g1; obtain ⟨up_, ua_, ue_, x1, x2, x3, x4⟩ := hH.glob.t3 l1 hl; rw [x1] at e1; refine ⟨10, #[.agg #[.slice op Pa.length cp, .slice oa Sa.length ca, .slice oe Sa.length ce, .int .i64 0], .agg #[up_, ua_, ue_, .int .i64 0]], by simp [go_sem, e0, e1], Calls.mono (HAP.out w _ _ _ _ _ _ (HLP.out.below hH.glob.be) (HLA.out.below hH.glob.be) (HLE.out.below hH.glob.be) x2 x3 x4) ?_⟩; rintro e w2 ⟨rfl, hb⟩; refine ⟨_, rfl, (r4 _ _).mpr rfl, fun j v _ h => K j v _ _ h, ?_⟩; rw [RV.upd_ne γ (i := 4) (j := 3) _ (by decide), RV.upd_ne γ (i := 4) (j := 8) _ (by decide), RV.more_ne (L := L) (i := 4) (j := 3) (by decide), RV.more_ne (L := L) (i := 4) (j := 8) (by decide), RV.more_ne (L := L) (i := 4) (j := 9) (by decide), RV.more_self]; exact hH.glob.told hb)) ?_
        refine RV.AllDo.cons 5 (RV.does_pure (fun γ v L w hl h => by rw [RV.upd_ne γ (i := 5) (j := 3) _ (by decide), RV.upd_ne γ (i := 5) (j := 8) _ (by decide), RV.more_ne (L := L) (i := 5) (j := 3) (by decide), RV.more_ne (L := L) (i := 5) (j := 4) (by decide), RV.more_ne (L := L) (i := 5) (j := 8) (by decide), RV.more_ne (L := L) (i := 5) (j := 9) (by decide)]; exact h) (fun γ L a w hH hl hA => by have l0 : L 4 = true := hA ⟨4, .data⟩ (by simp) rfl; have e0 := hH.slot 4 64 d4 l0; have g0 := hH.holds 4 l0; rw [r4] at g0; rw [g0] at e0; exact ⟨.tuple #[.agg #[.int .i64 tx, .int .i64 ty, .int .i64 tz, .int .i64 gp], .bool true], by simp [execOp, go_sem, e0], (r5 _ _).mpr rfl⟩)) ?_
        refine RV.AllDo.cons 6 (RV.does_pure (fun γ v L w hl h => by rw [RV.upd_ne γ (i := 6) (j := 3) _ (by decide), RV.upd_ne γ (i := 6) (j := 8) _ (by decide), RV.more_ne (L := L) (i := 6) (j := 3) (by decide), RV.more_ne (L := L) (i := 6) (j := 4) (by decide), RV.more_ne (L := L) (i := 6) (j := 8) (by decide), RV.more_ne (L := L) (i := 6) (j := 9) (by decide)]; exact h) (fun γ L a w hH hl hA => by have l0 : L 5 = true := hA ⟨5, .data⟩ (by simp) rfl; have e0 := hH.slot 5 59 d5 l0; have g0 := hH.holds 5 l0; rw [r5] at g0; rw [g0] at e0; exact ⟨.agg #[.int .i64 tx, .int .i64 ty, .int .i64 tz, .int .i64 gp], by simp [execOp, go_sem, e0], (r6 _ _).mpr rfl⟩)) ?_
        refine RV.AllDo.cons 7 (RV.does_pure (fun γ v L w hl h => by rw [RV.upd_ne γ (i := 7) (j := 3) _ (by decide), RV.upd_ne γ (i := 7) (j := 8) _ (by decide), RV.more_ne (L := L) (i := 7) (j := 3) (by decide), RV.more_ne (L := L) (i := 7) (j := 4) (by decide), RV.more_ne (L := L) (i := 7) (j := 8) (by decide), RV.more_ne (L := L) (i := 7) (j := 9) (by decide)]; exact h) (fun γ L a w hH hl hA => by have l0 : L 5 = true := hA ⟨5, .data⟩ (by simp) rfl; have e0 := hH.slot 5 59 d5 l0; have g0 := hH.holds 5 l0; rw [r5] at g0; rw [g0] at e0; exact ⟨.bool true, by simp [execOp, go_sem, e0], (r7 _ _).mpr rfl⟩)) ?_
        refine RV.AllDo.cons 8 (RV.does_step (fun γ L a w hH hl hA => by have h9 : L 9 = false := RV.not_yet hH A_9_8 hl; refine ⟨.pointer (some ⟨w.heap.size, 0, none⟩), w.alloc (.cells #[.int .i64 0, .int .i64 0, .int .i64 0, .int .i64 0] 29), by simp [execOp, go_sem], (r8 _ _).mpr trivial, fun j v _ h => K j v _ _ h, ?_⟩; rw [RV.upd_ne γ (i := 8) (j := 3) _ (by decide), RV.more_ne (L := L) (i := 8) (j := 3) (by decide), RV.more_ne (L := L) (i := 8) (j := 4) (by decide), RV.more_ne (L := L) (i := 8) (j := 9) (by decide), RV.upd_self, RV.more_self]; exact hH.glob.made h9)) ?_
        refine RV.AllDo.cons 9 (RV.does_store (fun γ L a w hH hl hA => by have l0 : L 8 = true := hA ⟨8, .data⟩ (by simp) rfl; have e0 := hH.slot 8 13 d8 l0; have g0 := hH.holds 8 l0; rw [r8] at g0; have l1 : L 6 = true := hA ⟨6, .data⟩ (by simp) rfl; have e1 := hH.slot 6 65 d6 l1; have g1 := hH.holds 6 l1; rw [r6] at g1; rw [g1] at e1; have hG := hH.glob; have m5 : L 5 = true := hH.closed 6 5 A_6_5 l1; have m4 : L 4 = true := hH.closed 5 4 A_5_4 m5; rw [m4, l0] at hG; obtain ⟨b, cs, k1, k2, k3, k4, _⟩ := hG.pd rfl; rw [k1] at e0; have q9 := hG.fill k1 k2 k3 k4; obtain ⟨q0, q1, q2, q3, rfl⟩ := arr4b k4; have wz0 : w.cell? ⟨b, 0, none⟩ = some q0 := (by simp [World.cell?, k3]); have wz1 : w.cell? ⟨b, 1, none⟩ = some q1 := (by simp [World.cell?, k3]); have wz2 : w.cell? ⟨b, 2, none⟩ = some q2 := (by simp [World.cell?, k3]); have wz3 : w.cell? ⟨b, 3, none⟩ = some q3 := (by simp [World.cell?, k3]); have zf : ∀ o, w.frozen? ⟨b, o, none⟩ = false := fun o => (by simp [World.frozen?, k3]); refine ⟨_, by simp [execOp, go_sem, e0, e1, wz0, wz1, wz2, wz3, zf]; rfl, (r9 _ _).mpr trivial, fun j v _ h => K j v _ _ h, ?_⟩; rw [RV.upd_ne γ (i := 9) (j := 3) _ (by decide), RV.upd_ne γ (i := 9) (j := 8) _ (by decide), RV.more_ne (L := L) (i := 9) (j := 3) (by decide), RV.more_ne (L := L) (i := 9) (j := 4) (by decide), RV.more_ne (L := L) (i := 9) (j := 8) (by decide), RV.more_self, m4, l0]; exact q9)) ?_
        refine RV.AllDo.cons 10 (RV.does_pure (fun γ v L w hl h => by rw [RV.upd_ne γ (i := 10) (j := 3) _ (by decide), RV.upd_ne γ (i := 10) (j := 8) _ (by decide), RV.more_ne (L := L) (i := 10) (j := 3) (by decide), RV.more_ne (L := L) (i := 10) (j := 4) (by decide), RV.more_ne (L := L) (i := 10) (j := 8) (by decide), RV.more_ne (L := L) (i := 10) (j := 9) (by decide)]; exact h) (fun γ L a w hH hl hA => by have l0 : L 7 = true := hA ⟨7, .data⟩ (by simp) rfl; have e0 := hH.slot 7 66 d7 l0; have g0 := hH.holds 7 l0; rw [r7] at g0; rw [g0] at e0; exact ⟨.bool true, by simp [execOp, go_sem, e0], (r10 _ _).mpr rfl⟩)) ?_
        exact RV.AllDo.nil
      · intro γ a5 w5 L9 hL hLo hH
        have ha := RV.held_act hH hL (by kernel_rfl) (by kernel_rfl)
        have hG := hH.glob
        rw [hL 3 (by decide), hL 4 (by decide), hL 8 (by decide), hL 9 (by decide)] at hG
        obtain ⟨b13, cs, k1, k2, k3, k4, k5⟩ := hG.pd rfl
        have y10 : γ 10 = .bool true := hH.holds 10 (hL 10 (by decide))
        rw [k5 rfl] at k3
        have C13 : CelW w5 b13 [.int .i64 tx, .int .i64 ty, .int .i64 tz, .int .i64 gp] := fun i v e => ⟨by simp [World.cell?, k3]; exact e, by simp [World.frozen?, k3]⟩
        have hB5 := hG.be
        rw [ha]
        clear ha hH hL hLo k5 hG k3 k4
        simp only [RV.putAll, Act.put, List.setIfInBounds_toArray, List.set_cons_zero, List.set_cons_succ, Nat.zero_add, Nat.reduceAdd]
        rw [k1, y10]
        clear k1 y10
        go_wp2_with (fail)
        go_meet
        case rel => exact ⟨b13, rfl, rfl, C13, hB5⟩
    case rest =>
      obtain ⟨b13, rfl, rfl, C13, hb⟩ := hcut
      have CP : Hid _ := CelW.step CP.out hb
      have CQ : Hid _ := CelW.step CQ.out hb
      have CD : Hid _ := CelW.step CD.out hb
      have HB : Hid _ := b_step HB.out hb
      have C13 : Hid _ := C13
      clear hb C9 C11 HLP HLA HLE MLP MLA MLE HMV HAP
      obtain ⟨X3, hX3⟩ : ∃ V, V = wc := ⟨_, rfl⟩
      rw [← hX3] at CP CQ CD HB C13 ⊢
      clear hX3
      go_upto_region 12 with fail
      have cp0_ := (CP.out 0 _ rfl).1
      have cp1_ := (CP.out 1 _ rfl).1
      have cp2_ := (CP.out 2 _ rfl).1
      have cq0_ := (CQ.out 0 _ rfl).1
      have cq1_ := (CQ.out 1 _ rfl).1
      have cq2_ := (CQ.out 2 _ rfl).1
      have cd0_ := (CD.out 0 _ rfl).1
      have cd1_ := (CD.out 1 _ rfl).1
      have cd2_ := (CD.out 2 _ rfl).1
      go_cut [16] from 17 to 105 (fun s16 wx => s16 = .int .i64 gp ∧ Hid (Below X3.heap.size X3 wx))
      case first =>
        refine RV.region_by (fun j v w => match j with | 0 => v = .func (.func 24) #[] #[] | 1 => v = .pointer (some ⟨db, 0, none⟩) | 2 => v = .int .i64 (kx) | 3 => v = .int .i64 (sx) | 4 => v = .pointer (some ⟨pb, 0, none⟩) | 5 => v = .int .i64 (ux) | 6 => v = .int .i64 (ix) | 7 => v = .pointer (some ⟨qb, 0, none⟩) | 8 => v = .int .i64 (vx) | 9 => v = .int .i64 (jx) | 10 => v = .func (.func 24) #[] #[] | 11 => v = .pointer (some ⟨db, 1, none⟩) | 12 => v = .int .i64 (ky) | 13 => v = .int .i64 (sy) | 14 => v = .pointer (some ⟨pb, 1, none⟩) | 15 => v = .int .i64 (uy) | 16 => v = .int .i64 (iy) | 17 => v = .pointer (some ⟨qb, 1, none⟩) | 18 => v = .int .i64 (vy) | 19 => v = .int .i64 (jy) | 20 => v = .func (.func 24) #[] #[] | 21 => v = .pointer (some ⟨db, 2, none⟩) | 22 => v = .int .i64 (kz) | 23 => v = .int .i64 (sz) | 24 => v = .pointer (some ⟨pb, 2, none⟩) | 25 => v = .int .i64 (uz) | 26 => v = .int .i64 (iz) | 27 => v = .pointer (some ⟨qb, 2, none⟩) | 28 => v = .int .i64 (vz) | 29 => v = .int .i64 (jz) | 30 => v = .int .i64 (m1) | 31 => v = .int .i64 (gp) | 32 => v = .int .i64 (gp) | _ => True) (fun γ L w9 => Below X3.heap.size X3 w9) (by kernel_rfl) (by kernel_rfl) (by kernel_rfl) (by kernel_rfl) ?_ ?_ ?_
        · exact (Below.refl _ X3).drew
        · generalize hD : dstOf _ = D
          generalize hWA : waitsFor _ = WA
          generalize hZ : Act.mk _ _ = Z
          obtain ⟨R, hR⟩ : ∃ R : Nat → Value → World → Prop, R = (fun j v w => match j with | 0 => v = .func (.func 24) #[] #[] | 1 => v = .pointer (some ⟨db, 0, none⟩) | 2 => v = .int .i64 (kx) | 3 => v = .int .i64 (sx) | 4 => v = .pointer (some ⟨pb, 0, none⟩) | 5 => v = .int .i64 (ux) | 6 => v = .int .i64 (ix) | 7 => v = .pointer (some ⟨qb, 0, none⟩) | 8 => v = .int .i64 (vx) | 9 => v = .int .i64 (jx) | 10 => v = .func (.func 24) #[] #[] | 11 => v = .pointer (some ⟨db, 1, none⟩) | 12 => v = .int .i64 (ky) | 13 => v = .int .i64 (sy) | 14 => v = .pointer (some ⟨pb, 1, none⟩) | 15 => v = .int .i64 (uy) | 16 => v = .int .i64 (iy) | 17 => v = .pointer (some ⟨qb, 1, none⟩) | 18 => v = .int .i64 (vy) | 19 => v = .int .i64 (jy) | 20 => v = .func (.func 24) #[] #[] | 21 => v = .pointer (some ⟨db, 2, none⟩) | 22 => v = .int .i64 (kz) | 23 => v = .int .i64 (sz) | 24 => v = .pointer (some ⟨pb, 2, none⟩) | 25 => v = .int .i64 (uz) | 26 => v = .int .i64 (iz) | 27 => v = .pointer (some ⟨qb, 2, none⟩) | 28 => v = .int .i64 (vz) | 29 => v = .int .i64 (jz) | 30 => v = .int .i64 (m1) | 31 => v = .int .i64 (gp) | 32 => v = .int .i64 (gp) | _ => True) := ⟨_, rfl⟩
          rw [← hR]
          have d0 : D 0 = some 67 := by rw [← hD]; rfl
          have d1 : D 1 = some 68 := by rw [← hD]; rfl
          have d2 : D 2 = some 69 := by rw [← hD]; rfl
          have d3 : D 3 = some 70 := by rw [← hD]; rfl
          have d4 : D 4 = some 71 := by rw [← hD]; rfl
          have d5 : D 5 = some 72 := by rw [← hD]; rfl
          have d6 : D 6 = some 73 := by rw [← hD]; rfl
          have d7 : D 7 = some 74 := by rw [← hD]; rfl
          have d8 : D 8 = some 75 := by rw [← hD]; rfl
          have d9 : D 9 = some 76 := by rw [← hD]; rfl
          have d10 : D 10 = some 77 := by rw [← hD]; rfl
          have d11 : D 11 = some 78 := by rw [← hD]; rfl
          have d12 : D 12 = some 79 := by rw [← hD]; rfl
          have d13 : D 13 = some 80 := by rw [← hD]; rfl
          have d14 : D 14 = some 81 := by rw [← hD]; rfl
          have d15 : D 15 = some 82 := by rw [← hD]; rfl
          have d16 : D 16 = some 83 := by rw [← hD]; rfl
          have d17 : D 17 = some 84 := by rw [← hD]; rfl
          have d18 : D 18 = some 85 := by rw [← hD]; rfl
          have d19 : D 19 = some 86 := by rw [← hD]; rfl
          have d20 : D 20 = some 87 := by rw [← hD]; rfl
          have d21 : D 21 = some 88 := by rw [← hD]; rfl
          have d22 : D 22 = some 89 := by rw [← hD]; rfl
          have d23 : D 23 = some 90 := by rw [← hD]; rfl
          have d24 : D 24 = some 91 := by rw [← hD]; rfl
          have d25 : D 25 = some 92 := by rw [← hD]; rfl
          have d26 : D 26 = some 93 := by rw [← hD]; rfl
          have d27 : D 27 = some 94 := by rw [← hD]; rfl
          have d28 : D 28 = some 95 := by rw [← hD]; rfl
          have d29 : D 29 = some 96 := by rw [← hD]; rfl
          have d30 : D 30 = some 97 := by rw [← hD]; rfl
          have d31 : D 31 = some 98 := by rw [← hD]; rfl
          have d32 : D 32 = some 16 := by rw [← hD]; rfl
          have r0 : ∀ v w, R 0 v w = (v = .func (.func 24) #[] #[]) := fun v w => by rw [hR]; rfl
          have r1 : ∀ v w, R 1 v w = (v = .pointer (some ⟨db, 0, none⟩)) := fun v w => by rw [hR]; rfl
          have r2 : ∀ v w, R 2 v w = (v = .int .i64 (kx)) := fun v w => by rw [hR]; rfl
          have r3 : ∀ v w, R 3 v w = (v = .int .i64 (sx)) := fun v w => by rw [hR]; rfl
          have r4 : ∀ v w, R 4 v w = (v = .pointer (some ⟨pb, 0, none⟩)) := fun v w => by rw [hR]; rfl
          have r5 : ∀ v w, R 5 v w = (v = .int .i64 (ux)) := fun v w => by rw [hR]; rfl
          have r6 : ∀ v w, R 6 v w = (v = .int .i64 (ix)) := fun v w => by rw [hR]; rfl
          have r7 : ∀ v w, R 7 v w = (v = .pointer (some ⟨qb, 0, none⟩)) := fun v w => by rw [hR]; rfl
          have r8 : ∀ v w, R 8 v w = (v = .int .i64 (vx)) := fun v w => by rw [hR]; rfl
          have r9 : ∀ v w, R 9 v w = (v = .int .i64 (jx)) := fun v w => by rw [hR]; rfl
          have r10 : ∀ v w, R 10 v w = (v = .func (.func 24) #[] #[]) := fun v w => by rw [hR]; rfl
          have r11 : ∀ v w, R 11 v w = (v = .pointer (some ⟨db, 1, none⟩)) := fun v w => by rw [hR]; rfl
          have r12 : ∀ v w, R 12 v w = (v = .int .i64 (ky)) := fun v w => by rw [hR]; rfl
          have r13 : ∀ v w, R 13 v w = (v = .int .i64 (sy)) := fun v w => by rw [hR]; rfl
          have r14 : ∀ v w, R 14 v w = (v = .pointer (some ⟨pb, 1, none⟩)) := fun v w => by rw [hR]; rfl
          have r15 : ∀ v w, R 15 v w = (v = .int .i64 (uy)) := fun v w => by rw [hR]; rfl
          have r16 : ∀ v w, R 16 v w = (v = .int .i64 (iy)) := fun v w => by rw [hR]; rfl
          have r17 : ∀ v w, R 17 v w = (v = .pointer (some ⟨qb, 1, none⟩)) := fun v w => by rw [hR]; rfl
          have r18 : ∀ v w, R 18 v w = (v = .int .i64 (vy)) := fun v w => by rw [hR]; rfl
          have r19 : ∀ v w, R 19 v w = (v = .int .i64 (jy)) := fun v w => by rw [hR]; rfl
          have r20 : ∀ v w, R 20 v w = (v = .func (.func 24) #[] #[]) := fun v w => by rw [hR]; rfl
          have r21 : ∀ v w, R 21 v w = (v = .pointer (some ⟨db, 2, none⟩)) := fun v w => by rw [hR]; rfl
          have r22 : ∀ v w, R 22 v w = (v = .int .i64 (kz)) := fun v w => by rw [hR]; rfl
          have r23 : ∀ v w, R 23 v w = (v = .int .i64 (sz)) := fun v w => by rw [hR]; rfl
          have r24 : ∀ v w, R 24 v w = (v = .pointer (some ⟨pb, 2, none⟩)) := fun v w => by rw [hR]; rfl
          have r25 : ∀ v w, R 25 v w = (v = .int .i64 (uz)) := fun v w => by rw [hR]; rfl
          have r26 : ∀ v w, R 26 v w = (v = .int .i64 (iz)) := fun v w => by rw [hR]; rfl
          have r27 : ∀ v w, R 27 v w = (v = .pointer (some ⟨qb, 2, none⟩)) := fun v w => by rw [hR]; rfl
          have r28 : ∀ v w, R 28 v w = (v = .int .i64 (vz)) := fun v w => by rw [hR]; rfl
          have r29 : ∀ v w, R 29 v w = (v = .int .i64 (jz)) := fun v w => by rw [hR]; rfl
          have r30 : ∀ v w, R 30 v w = (v = .int .i64 (m1)) := fun v w => by rw [hR]; rfl
          have r31 : ∀ v w, R 31 v w = (v = .int .i64 (gp)) := fun v w => by rw [hR]; rfl
          have r32 : ∀ v w, R 32 v w = (v = .int .i64 (gp)) := fun v w => by rw [hR]; rfl
          have E3 : ∀ (γ : Nat → Value) (L : Nat → Bool) (a : Act) (w : World), RV.Held D WA R (fun γ L w9 => Below X3.heap.size X3 w9) Z γ L a w → a.tmps[3]? = some (.pointer (some ⟨pb, 0, none⟩)) := fun γ L a w hH => (hH.rest 3 (by rw [← hD]; exact RV.dst_free (by kernel_rfl))).trans (by rw [← hZ]; rfl)
          have E4 : ∀ (γ : Nat → Value) (L : Nat → Bool) (a : Act) (w : World), RV.Held D WA R (fun γ L w9 => Below X3.heap.size X3 w9) Z γ L a w → a.tmps[4]? = some (.pointer (some ⟨qb, 0, none⟩)) := fun γ L a w hH => (hH.rest 4 (by rw [← hD]; exact RV.dst_free (by kernel_rfl))).trans (by rw [← hZ]; rfl)
          have E5 : ∀ (γ : Nat → Value) (L : Nat → Bool) (a : Act) (w : World), RV.Held D WA R (fun γ L w9 => Below X3.heap.size X3 w9) Z γ L a w → a.tmps[5]? = some (.pointer (some ⟨db, 0, none⟩)) := fun γ L a w hH => (hH.rest 5 (by rw [← hD]; exact RV.dst_free (by kernel_rfl))).trans (by rw [← hZ]; rfl)
          have E15 : ∀ (γ : Nat → Value) (L : Nat → Bool) (a : Act) (w : World), RV.Held D WA R (fun γ L w9 => Below X3.heap.size X3 w9) Z γ L a w → a.tmps[15]? = some (.func (.func 24) #[] #[]) := fun γ L a w hH => (hH.rest 15 (by rw [← hD]; exact RV.dst_free (by kernel_rfl))).trans (by rw [← hZ]; rfl)
          have K : ∀ j v w w', R j v w → R j v w' := by rw [hR]; intro j v w w' h; exact h
          clear hD hWA hZ hR
          refine RV.AllDo.cons 0 (RV.does_pure (fun γ v L w hl h => h) (fun γ L a w hH hl hA => by have e0 := E15 γ L a w hH; exact ⟨.func (.func 24) #[] #[], by simp [execOp, go_sem, e0], (r0 _ _).mpr rfl⟩)) ?_
          refine RV.AllDo.cons 1 (RV.does_pure (fun γ v L w hl h => h) (fun γ L a w hH hl hA => by have e0 := E5 γ L a w hH; exact ⟨.pointer (some ⟨db, 0, none⟩), by simp [execOp, go_sem, e0], (r1 _ _).mpr rfl⟩)) ?_
          refine RV.AllDo.cons 2 (RV.does_pure (fun γ v L w hl h => h) (fun γ L a w hH hl hA => by have l0 : L 1 = true := hA ⟨1, .data⟩ (by simp) rfl; have e0 := hH.slot 1 68 d1 l0; have g0 := hH.holds 1 l0; rw [r1] at g0; rw [g0] at e0; have hB9 := hH.glob; have z0 := c_after hB9 cd0_; exact ⟨.int .i64 (kx), by simp [execOp, go_sem, e0, z0], (r2 _ _).mpr rfl⟩)) ?_
          refine RV.AllDo.cons 3 (RV.does_call (fun γ L a w hH hl hA => by have l0 : L 0 = true := hA ⟨0, .data⟩ (by simp) rfl; have e0 := hH.slot 0 67 d0 l0; have g0 := hH.holds 0 l0; rw [r0] at g0; rw [g0] at e0; have l1 : L 2 = true := hA ⟨2, .data⟩ (by simp) rfl; have e1 := hH.slot 2 69 d2 l1; have g1 := hH.holds 2 l1; rw [r2] at g1; rw [g1] at e1; have hB9 := hH.glob; exact ⟨24, #[.int .i64 (kx)], by simp [go_sem, e0, e1], Calls.mono (HSx.out w) (by rintro e w2 ⟨rfl, hb⟩; exact ⟨_, rfl, (r3 _ _).mpr rfl, fun j v _ h => K j v _ _ h, hB9.trans (hb.mono hB9.size)⟩)⟩)) ?_
          refine RV.AllDo.cons 4 (RV.does_pure (fun γ v L w hl h => h) (fun γ L a w hH hl hA => by have e0 := E3 γ L a w hH; exact ⟨.pointer (some ⟨pb, 0, none⟩), by simp [execOp, go_sem, e0], (r4 _ _).mpr rfl⟩)) ?_
          refine RV.AllDo.cons 5 (RV.does_pure (fun γ v L w hl h => h) (fun γ L a w hH hl hA => by have l0 : L 4 = true := hA ⟨4, .data⟩ (by simp) rfl; have e0 := hH.slot 4 71 d4 l0; have g0 := hH.holds 4 l0; rw [r4] at g0; rw [g0] at e0; have hB9 := hH.glob; have z0 := c_after hB9 cp0_; exact ⟨.int .i64 (ux), by simp [execOp, go_sem, e0, z0], (r5 _ _).mpr rfl⟩)) ?_
          refine RV.AllDo.cons 6 (RV.does_pure (fun γ v L w hl h => h) (fun γ L a w hH hl hA => by have l0 : L 3 = true := hA ⟨3, .data⟩ (by simp) rfl; have e0 := hH.slot 3 70 d3 l0; have g0 := hH.holds 3 l0; rw [r3] at g0; rw [g0] at e0; have l1 : L 5 = true := hA ⟨5, .data⟩ (by simp) rfl; have e1 := hH.slot 5 72 d5 l1; have g1 := hH.holds 5 l1; rw [r5] at g1; rw [g1] at e1; exact ⟨.int .i64 (ix), by simp [execOp, go_sem, e0, e1, z1_x], (r6 _ _).mpr rfl⟩)) ?_
          refine RV.AllDo.cons 7 (RV.does_pure (fun γ v L w hl h => h) (fun γ L a w hH hl hA => by have e0 := E4 γ L a w hH; exact ⟨.pointer (some ⟨qb, 0, none⟩), by simp [execOp, go_sem, e0], (r7 _ _).mpr rfl⟩)) ?_
          refine RV.AllDo.cons 8 (RV.does_pure (fun γ v L w hl h => h) (fun γ L a w hH hl hA => by have l0 : L 7 = true := hA ⟨7, .data⟩ (by simp) rfl; have e0 := hH.slot 7 74 d7 l0; have g0 := hH.holds 7 l0; rw [r7] at g0; rw [g0] at e0; have hB9 := hH.glob; have z0 := c_after hB9 cq0_; exact ⟨.int .i64 (vx), by simp [execOp, go_sem, e0, z0], (r8 _ _).mpr rfl⟩)) ?_
          refine RV.AllDo.cons 9 (RV.does_pure (fun γ v L w hl h => h) (fun γ L a w hH hl hA => by have l0 : L 6 = true := hA ⟨6, .data⟩ (by simp) rfl; have e0 := hH.slot 6 73 d6 l0; have g0 := hH.holds 6 l0; rw [r6] at g0; rw [g0] at e0; have l1 : L 8 = true := hA ⟨8, .data⟩ (by simp) rfl; have e1 := hH.slot 8 75 d8 l1; have g1 := hH.holds 8 l1; rw [r8] at g1; rw [g1] at e1; exact ⟨.int .i64 (jx), by simp [execOp, go_sem, e0, e1, z2_x], (r9 _ _).mpr rfl⟩)) ?_
          refine RV.AllDo.cons 10 (RV.does_pure (fun γ v L w hl h => h) (fun γ L a w hH hl hA => by have e0 := E15 γ L a w hH; exact ⟨.func (.func 24) #[] #[], by simp [execOp, go_sem, e0], (r10 _ _).mpr rfl⟩)) ?_
          refine RV.AllDo.cons 11 (RV.does_pure (fun γ v L w hl h => h) (fun γ L a w hH hl hA => by have e0 := E5 γ L a w hH; exact ⟨.pointer (some ⟨db, 1, none⟩), by simp [execOp, go_sem, e0], (r11 _ _).mpr rfl⟩)) ?_
          refine RV.AllDo.cons 12 (RV.does_pure (fun γ v L w hl h => h) (fun γ L a w hH hl hA => by have l0 : L 11 = true := hA ⟨11, .data⟩ (by simp) rfl; have e0 := hH.slot 11 78 d11 l0; have g0 := hH.holds 11 l0; rw [r11] at g0; rw [g0] at e0; have hB9 := hH.glob; have z0 := c_after hB9 cd1_; exact ⟨.int .i64 (ky), by simp [execOp, go_sem, e0, z0], (r12 _ _).mpr rfl⟩)) ?_
          refine RV.AllDo.cons 13 (RV.does_call (fun γ L a w hH hl hA => by have l0 : L 10 = true := hA ⟨10, .data⟩ (by simp) rfl; have e0 := hH.slot 10 77 d10 l0; have g0 := hH.holds 10 l0; rw [r10] at g0; rw [g0] at e0; have l1 : L 12 = true := hA ⟨12, .data⟩ (by simp) rfl; have e1 := hH.slot 12 79 d12 l1; have g1 := hH.holds 12 l1; rw [r12] at g1; rw [g1] at e1; have hB9 := hH.glob; exact ⟨24, #[.int .i64 (ky)], by simp [go_sem, e0, e1], Calls.mono (HSy.out w) (by rintro e w2 ⟨rfl, hb⟩; exact ⟨_, rfl, (r13 _ _).mpr rfl, fun j v _ h => K j v _ _ h, hB9.trans (hb.mono hB9.size)⟩)⟩)) ?_
          refine RV.AllDo.cons 14 (RV.does_pure (fun γ v L w hl h => h) (fun γ L a w hH hl hA => by have e0 := E3 γ L a w hH; exact ⟨.pointer (some ⟨pb, 1, none⟩), by simp [execOp, go_sem, e0], (r14 _ _).mpr rfl⟩)) ?_
          refine RV.AllDo.cons 15 (RV.does_pure (fun γ v L w hl h => h) (fun γ L a w hH hl hA => by have l0 : L 14 = true := hA ⟨14, .data⟩ (by simp) rfl; have e0 := hH.slot 14 81 d14 l0; have g0 := hH.holds 14 l0; rw [r14] at g0; rw [g0] at e0; have hB9 := hH.glob; have z0 := c_after hB9 cp1_; exact ⟨.int .i64 (uy), by simp [execOp, go_sem, e0, z0], (r15 _ _).mpr rfl⟩)) ?_
          refine RV.AllDo.cons 16 (RV.does_pure (fun γ v L w hl h => h) (fun γ L a w hH hl hA => by have l0 : L 13 = true := hA ⟨13, .data⟩ (by simp) rfl; have e0 := hH.slot 13 80 d13 l0; have g0 := hH.holds 13 l0; rw [r13] at g0; rw [g0] at e0; have l1 : L 15 = true := hA ⟨15, .data⟩ (by simp) rfl; have e1 := hH.slot 15 82 d15 l1; have g1 := hH.holds 15 l1; rw [r15] at g1; rw [g1] at e1; exact ⟨.int .i64 (iy), by simp [execOp, go_sem, e0, e1, z1_y], (r16 _ _).mpr rfl⟩)) ?_
          refine RV.AllDo.cons 17 (RV.does_pure (fun γ v L w hl h => h) (fun γ L a w hH hl hA => by have e0 := E4 γ L a w hH; exact ⟨.pointer (some ⟨qb, 1, none⟩), by simp [execOp, go_sem, e0], (r17 _ _).mpr rfl⟩)) ?_
          refine RV.AllDo.cons 18 (RV.does_pure (fun γ v L w hl h => h) (fun γ L a w hH hl hA => by have l0 : L 17 = true := hA ⟨17, .data⟩ (by simp) rfl; have e0 := hH.slot 17 84 d17 l0; have g0 := hH.holds 17 l0; rw [r17] at g0; rw [g0] at e0; have hB9 := hH.glob; have z0 := c_after hB9 cq1_; exact ⟨.int .i64 (vy), by simp [execOp, go_sem, e0, z0], (r18 _ _).mpr rfl⟩)) ?_
          refine RV.AllDo.cons 19 (RV.does_pure (fun γ v L w hl h => h) (fun γ L a w hH hl hA => by have l0 : L 16 = true := hA ⟨16, .data⟩ (by simp) rfl; have e0 := hH.slot 16 83 d16 l0; have g0 := hH.holds 16 l0; rw [r16] at g0; rw [g0] at e0; have l1 : L 18 = true := hA ⟨18, .data⟩ (by simp) rfl; have e1 := hH.slot 18 85 d18 l1; have g1 := hH.holds 18 l1; rw [r18] at g1; rw [g1] at e1; exact ⟨.int .i64 (jy), by simp [execOp, go_sem, e0, e1, z2_y], (r19 _ _).mpr rfl⟩)) ?_
          refine RV.AllDo.cons 20 (RV.does_pure (fun γ v L w hl h => h) (fun γ L a w hH hl hA => by have e0 := E15 γ L a w hH; exact ⟨.func (.func 24) #[] #[], by simp [execOp, go_sem, e0], (r20 _ _).mpr rfl⟩)) ?_
          refine RV.AllDo.cons 21 (RV.does_pure (fun γ v L w hl h => h) (fun γ L a w hH hl hA => by have e0 := E5 γ L a w hH; exact ⟨.pointer (some ⟨db, 2, none⟩), by simp [execOp, go_sem, e0], (r21 _ _).mpr rfl⟩)) ?_
          refine RV.AllDo.cons 22 (RV.does_pure (fun γ v L w hl h => h) (fun γ L a w hH hl hA => by have l0 : L 21 = true := hA ⟨21, .data⟩ (by simp) rfl; have e0 := hH.slot 21 88 d21 l0; have g0 := hH.holds 21 l0; rw [r21] at g0; rw [g0] at e0; have hB9 := hH.glob; have z0 := c_after hB9 cd2_; exact ⟨.int .i64 (kz), by simp [execOp, go_sem, e0, z0], (r22 _ _).mpr rfl⟩)) ?_
          refine RV.AllDo.cons 23 (RV.does_call (fun γ L a w hH hl hA => by have l0 : L 20 = true := hA ⟨20, .data⟩ (by simp) rfl; have e0 := hH.slot 20 87 d20 l0; have g0 := hH.holds 20 l0; rw [r20] at g0; rw [g0] at e0; have l1 : L 22 = true := hA ⟨22, .data⟩ (by simp) rfl; have e1 := hH.slot 22 89 d22 l1; have g1 := hH.holds 22 l1; rw [r22] at g1; rw [g1] at e1; have hB9 := hH.glob; exact ⟨24, #[.int .i64 (kz)], by simp [go_sem, e0, e1], Calls.mono (HSz.out w) (by rintro e w2 ⟨rfl, hb⟩; exact ⟨_, rfl, (r23 _ _).mpr rfl, fun j v _ h => K j v _ _ h, hB9.trans (hb.mono hB9.size)⟩)⟩)) ?_
          refine RV.AllDo.cons 24 (RV.does_pure (fun γ v L w hl h => h) (fun γ L a w hH hl hA => by have e0 := E3 γ L a w hH; exact ⟨.pointer (some ⟨pb, 2, none⟩), by simp [execOp, go_sem, e0], (r24 _ _).mpr rfl⟩)) ?_
          refine RV.AllDo.cons 25 (RV.does_pure (fun γ v L w hl h => h) (fun γ L a w hH hl hA => by have l0 : L 24 = true := hA ⟨24, .data⟩ (by simp) rfl; have e0 := hH.slot 24 91 d24 l0; have g0 := hH.holds 24 l0; rw [r24] at g0; rw [g0] at e0; have hB9 := hH.glob; have z0 := c_after hB9 cp2_; exact ⟨.int .i64 (uz), by simp [execOp, go_sem, e0, z0], (r25 _ _).mpr rfl⟩)) ?_
          refine RV.AllDo.cons 26 (RV.does_pure (fun γ v L w hl h => h) (fun γ L a w hH hl hA => by have l0 : L 23 = true := hA ⟨23, .data⟩ (by simp) rfl; have e0 := hH.slot 23 90 d23 l0; have g0 := hH.holds 23 l0; rw [r23] at g0; rw [g0] at e0; have l1 : L 25 = true := hA ⟨25, .data⟩ (by simp) rfl; have e1 := hH.slot 25 92 d25 l1; have g1 := hH.holds 25 l1; rw [r25] at g1; rw [g1] at e1; exact ⟨.int .i64 (iz), by simp [execOp, go_sem, e0, e1, z1_z], (r26 _ _).mpr rfl⟩)) ?_
          refine RV.AllDo.cons 27 (RV.does_pure (fun γ v L w hl h => h) (fun γ L a w hH hl hA => by have e0 := E4 γ L a w hH; exact ⟨.pointer (some ⟨qb, 2, none⟩), by simp [execOp, go_sem, e0], (r27 _ _).mpr rfl⟩)) ?_
          refine RV.AllDo.cons 28 (RV.does_pure (fun γ v L w hl h => h) (fun γ L a w hH hl hA => by have l0 : L 27 = true := hA ⟨27, .data⟩ (by simp) rfl; have e0 := hH.slot 27 94 d27 l0; have g0 := hH.holds 27 l0; rw [r27] at g0; rw [g0] at e0; have hB9 := hH.glob; have z0 := c_after hB9 cq2_; exact ⟨.int .i64 (vz), by simp [execOp, go_sem, e0, z0], (r28 _ _).mpr rfl⟩)) ?_
          refine RV.AllDo.cons 29 (RV.does_pure (fun γ v L w hl h => h) (fun γ L a w hH hl hA => by have l0 : L 26 = true := hA ⟨26, .data⟩ (by simp) rfl; have e0 := hH.slot 26 93 d26 l0; have g0 := hH.holds 26 l0; rw [r26] at g0; rw [g0] at e0; have l1 : L 28 = true := hA ⟨28, .data⟩ (by simp) rfl; have e1 := hH.slot 28 95 d28 l1; have g1 := hH.holds 28 l1; rw [r28] at g1; rw [g1] at e1; exact ⟨.int .i64 (jz), by simp [execOp, go_sem, e0, e1, z2_z], (r29 _ _).mpr rfl⟩)) ?_
          refine RV.AllDo.cons 30 (RV.does_pure (fun γ v L w hl h => h) (fun γ L a w hH hl hA => by have l0 : L 19 = true := hA ⟨19, .data⟩ (by simp) rfl; have e0 := hH.slot 19 86 d19 l0; have g0 := hH.holds 19 l0; rw [r19] at g0; rw [g0] at e0; have l1 : L 29 = true := hA ⟨29, .data⟩ (by simp) rfl; have e1 := hH.slot 29 96 d29 l1; have g1 := hH.holds 29 l1; rw [r29] at g1; rw [g1] at e1; exact ⟨.int .i64 (m1), by simp [go_sem, e0, e1, z_m1], (r30 _ _).mpr rfl⟩)) ?_
          refine RV.AllDo.cons 31 (RV.does_pure (fun γ v L w hl h => h) (fun γ L a w hH hl hA => by have l0 : L 9 = true := hA ⟨9, .data⟩ (by simp) rfl; have e0 := hH.slot 9 76 d9 l0; have g0 := hH.holds 9 l0; rw [r9] at g0; rw [g0] at e0; have l1 : L 30 = true := hA ⟨30, .data⟩ (by simp) rfl; have e1 := hH.slot 30 97 d30 l1; have g1 := hH.holds 30 l1; rw [r30] at g1; rw [g1] at e1; exact ⟨.int .i64 (gp), by simp [go_sem, e0, e1, z_gp], (r31 _ _).mpr rfl⟩)) ?_
          refine RV.AllDo.cons 32 (RV.does_pure (fun γ v L w hl h => h) (fun γ L a w hH hl hA => by have l0 : L 31 = true := hA ⟨31, .data⟩ (by simp) rfl; have e0 := hH.slot 31 98 d31 l0; have g0 := hH.holds 31 l0; rw [r31] at g0; rw [g0] at e0; exact ⟨.int .i64 (gp), by simp [execOp, go_sem, e0], (r32 _ _).mpr rfl⟩)) ?_
          exact RV.AllDo.nil
        · intro γ a5 w5 L9 hL hLo hH
          have ha := RV.held_act hH hL (by kernel_rfl) (by kernel_rfl)
          have hb8 := hH.glob
          have y0 : γ 0 = .func (.func 24) #[] #[] := hH.holds 0 (hL 0 (by decide))
          have y1 : γ 1 = .pointer (some ⟨db, 0, none⟩) := hH.holds 1 (hL 1 (by decide))
          have y2 : γ 2 = .int .i64 (kx) := hH.holds 2 (hL 2 (by decide))
          have y3 : γ 3 = .int .i64 (sx) := hH.holds 3 (hL 3 (by decide))
          have y4 : γ 4 = .pointer (some ⟨pb, 0, none⟩) := hH.holds 4 (hL 4 (by decide))
          have y5 : γ 5 = .int .i64 (ux) := hH.holds 5 (hL 5 (by decide))
          have y6 : γ 6 = .int .i64 (ix) := hH.holds 6 (hL 6 (by decide))
          have y7 : γ 7 = .pointer (some ⟨qb, 0, none⟩) := hH.holds 7 (hL 7 (by decide))
          have y8 : γ 8 = .int .i64 (vx) := hH.holds 8 (hL 8 (by decide))
          have y9 : γ 9 = .int .i64 (jx) := hH.holds 9 (hL 9 (by decide))
          have y10 : γ 10 = .func (.func 24) #[] #[] := hH.holds 10 (hL 10 (by decide))
          have y11 : γ 11 = .pointer (some ⟨db, 1, none⟩) := hH.holds 11 (hL 11 (by decide))
          have y12 : γ 12 = .int .i64 (ky) := hH.holds 12 (hL 12 (by decide))
          have y13 : γ 13 = .int .i64 (sy) := hH.holds 13 (hL 13 (by decide))
          have y14 : γ 14 = .pointer (some ⟨pb, 1, none⟩) := hH.holds 14 (hL 14 (by decide))
          have y15 : γ 15 = .int .i64 (uy) := hH.holds 15 (hL 15 (by decide))
          have y16 : γ 16 = .int .i64 (iy) := hH.holds 16 (hL 16 (by decide))
          have y17 : γ 17 = .pointer (some ⟨qb, 1, none⟩) := hH.holds 17 (hL 17 (by decide))
          have y18 : γ 18 = .int .i64 (vy) := hH.holds 18 (hL 18 (by decide))
          have y19 : γ 19 = .int .i64 (jy) := hH.holds 19 (hL 19 (by decide))
          have y20 : γ 20 = .func (.func 24) #[] #[] := hH.holds 20 (hL 20 (by decide))
          have y21 : γ 21 = .pointer (some ⟨db, 2, none⟩) := hH.holds 21 (hL 21 (by decide))
          have y22 : γ 22 = .int .i64 (kz) := hH.holds 22 (hL 22 (by decide))
          have y23 : γ 23 = .int .i64 (sz) := hH.holds 23 (hL 23 (by decide))
          have y24 : γ 24 = .pointer (some ⟨pb, 2, none⟩) := hH.holds 24 (hL 24 (by decide))
          have y25 : γ 25 = .int .i64 (uz) := hH.holds 25 (hL 25 (by decide))
          have y26 : γ 26 = .int .i64 (iz) := hH.holds 26 (hL 26 (by decide))
          have y27 : γ 27 = .pointer (some ⟨qb, 2, none⟩) := hH.holds 27 (hL 27 (by decide))
          have y28 : γ 28 = .int .i64 (vz) := hH.holds 28 (hL 28 (by decide))
          have y29 : γ 29 = .int .i64 (jz) := hH.holds 29 (hL 29 (by decide))
          have y30 : γ 30 = .int .i64 (m1) := hH.holds 30 (hL 30 (by decide))
          have y31 : γ 31 = .int .i64 (gp) := hH.holds 31 (hL 31 (by decide))
          have y32 : γ 32 = .int .i64 (gp) := hH.holds 32 (hL 32 (by decide))
          rw [ha]
          clear ha hH hL hLo
          simp only [RV.putAll, Act.put, List.setIfInBounds_toArray, List.set_cons_zero, List.set_cons_succ, Nat.zero_add, Nat.reduceAdd, y0, y1, y2, y3, y4, y5, y6, y7, y8, y9, y10, y11, y12, y13, y14, y15, y16, y17, y18, y19, y20, y21, y22, y23, y24, y25, y26, y27, y28, y29, y30, y31, y32]
          clear y0 y1 y2 y3 y4 y5 y6 y7 y8 y9 y10 y11 y12 y13 y14 y15 y16 y17 y18 y19 y20 y21 y22 y23 y24 y25 y26 y27 y28 y29 y30 y31 y32
          have HB3 : Hid _ := hb8
          go_wp2_with (fail)
          go_meet
          case rel => exact ⟨rfl, HB3⟩
      case rest =>
        obtain ⟨rfl, HB3⟩ := hcut
        have y3 := (CelW.step C13.out HB3.out 3 _ rfl).1
        go_wp2_with (fail)
        go_ret
        exact ⟨rfl, b_step HB.out HB3.out⟩

/-! ### The row's step, after the guide's template -/
set_option maxRecDepth 100000 in
theorem lifted (os : Os) (started : os.Started) (H : Type) (enc : TypeId × Value → H) :
    ReturnsInHanded {} Try.checked os 8 .any (Rows.narrowBricksSpec.pre6 enc Try.prog Try.f8 Rows.narrowBricksRow.domain false) (Rows.narrowBricksSpec.post enc Try.prog Try.f8 false true false false) := by
  refine returnsInHanded_of_change (C := Try.checked) own started (by kernel_rfl) Try.func8
    (ChangeSpec.witness6 (enc := enc) (C := Try.checked) false ⟨#[], #[.agg #[.int .i64 0, .int .i64 0, .int .i64 0], .agg #[.int .i64 0, .int .i64 0, .int .i64 0], .agg #[.int .i64 0, .int .i64 0, .int .i64 0]], []⟩ 8 (by kernel_rfl) (by kernel_rfl) (by kernel_rfl) (by kernel_rfl)) ?_
  intro W base args ds gs before hval0 hW hcnd _
  have hval : ∀ (j : Nat) t v, Try.f8.params[j]? = some t → args[j]? = some v → Value.okWide Try.prog W .any base t v := hval0
  have hW' := hW
  obtain ⟨p, q, hA0, hV, rfl, hfz, hnd⟩ := hW
  have hA : DataW.TrodAll enc Try.prog W 0 (fun _ => true) true Try.f8.params.toList args.toList ds p := hA0
  rw [Try.params8] at hA hval
  obtain ⟨v0, vs0, d0, ds0, p0, q0, hargs, rfl, rfl, h0, r0⟩ := trodAll_cons hA
  obtain ⟨v1, vs1, d1, ds1, p1, q1, rfl, rfl, rfl, h1, r1⟩ := trodAll_cons r0
  obtain ⟨v2, vs2, d2, ds2, p2, q2, rfl, rfl, rfl, h2, r2⟩ := trodAll_cons r1
  obtain ⟨rfl, rfl, rfl⟩ := trodAll_nil r2
  obtain rfl : args = #[v0, v1, v2] := by cases args; simp_all
  obtain ⟨rfl, rfl⟩ := trodVars_none hV
  have k0 := h0
  have lt0 : ∀ x ∈ p0, x.block < W.heap.size := by obtain ⟨m, hm⟩ := k0; exact DataW.trod_lt m _ _ _ hm
  obtain ⟨tx0, ty0, tz0, rfl, _, _, nx0, ny0, nz0⟩ := open_point (hval 0 26 v0 rfl rfl) h0
  have btx0_ := bounds_i64 nx0
  have bty0_ := bounds_i64 ny0
  have btz0_ := bounds_i64 nz0
  have k1 := h1
  have lt1 : ∀ x ∈ p1, x.block < W.heap.size := by obtain ⟨m, hm⟩ := k1; exact DataW.trod_lt m _ _ _ hm
  obtain ⟨tx1, ty1, tz1, rfl, _, _, nx1, ny1, nz1⟩ := open_point (hval 1 26 v1 rfl rfl) h1
  have btx1_ := bounds_i64 nx1
  have bty1_ := bounds_i64 ny1
  have btz1_ := bounds_i64 nz1
  have k2 := h2
  have lt2 : ∀ x ∈ p2, x.block < W.heap.size := by obtain ⟨m, hm⟩ := k2; exact DataW.trod_lt m _ _ _ hm
  obtain ⟨tx2, ty2, tz2, rfl, _, _, nx2, ny2, nz2⟩ := open_point (hval 2 26 v2 rfl rfl) h2
  have btx2_ := bounds_i64 nx2
  have bty2_ := bounds_i64 ny2
  have btz2_ := bounds_i64 nz2
  clear hA0 hval0
  refine (walk tx0 ty0 tz0 tx1 ty1 tz1 tx2 ty2 tz2 W (by omega) (by omega) (by omega) (by omega) (by omega) (by omega) (by omega) (by omega) (by omega)).mono fun e W' ⟨he, bel⟩ => ?_
  subst he
  exact ⟨_, rfl, _, _, _, [], _, [], hW', trodAll_mk1 (shut_bool Try.underlying4 _), (trodAll_cons_mk (Below.trod laidOut (by kernel_rfl) (of_decide_eq_true (by kernel_rfl)) k0 bel lt0) (trodAll_cons_mk (Below.trod laidOut (by kernel_rfl) (of_decide_eq_true (by kernel_rfl)) k1 bel lt1) (trodAll_cons_mk (Below.trod laidOut (by kernel_rfl) (of_decide_eq_true (by kernel_rfl)) k2 bel lt2) trodAll_mk0))), rfl, bel.frame _, fun h => by cases h⟩

theorem over : Rows.narrowBricksRow.holds Try.pinned (OpenSpec.ofChange Rows.narrowBricksSpec) :=
  OpenClaim.holds_of_wide 8 Try.f8 rfl rfl rfl rfl rfl rfl rfl ⟨rfl, rfl, rfl, rfl, rfl⟩ rfl rfl rfl rfl rfl (by kernel_rfl) Try.func8 (by kernel_rfl)
    (of_decide_eq_true (by kernel_rfl)) (by unfold Func.isWrapper; first | (rw [if_pos (by decide +kernel)]; kernel_rfl) | (rw [if_neg (by decide +kernel)]; exact ⟨rfl, rfl⟩))
    (fun os started H enc _ => lifted os started H enc)

end narrowBricks

theorem narrowBricks_holds : Rows.NarrowBricksSaid := narrowBricks.over
#print axioms narrowBricks_holds
end Go.Proofs.Ythcdpngkoejgpaa
