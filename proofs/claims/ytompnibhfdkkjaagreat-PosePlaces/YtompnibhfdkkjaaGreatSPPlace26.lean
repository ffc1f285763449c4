/- PosePlaces as a contract: it returns true, and leaves what was there. -/
import Derived.Test.YtompnibhfdkkjaaGreatSPPlace25
namespace Go.Proofs.YtompnibhfdkkjaaGreat
open Go.RowKit Go.Shelf
set_option linter.unusedVariables false

theorem start3 (w0 : World) (l1 l2 l3 : List Value) (t1 t2 t3 : TypeId) :
    Cells (((w0.alloc (.cells l1.toArray t1)).alloc (.cells l2.toArray t2)).alloc (.cells l3.toArray t3)) w0.heap.size l1 ∧ Cells (((w0.alloc (.cells l1.toArray t1)).alloc (.cells l2.toArray t2)).alloc (.cells l3.toArray t3)) (w0.heap.size + 1) l2 ∧ Cells (((w0.alloc (.cells l1.toArray t1)).alloc (.cells l2.toArray t2)).alloc (.cells l3.toArray t3)) (w0.heap.size + 1 + 1) l3 ∧ Below w0.heap.size w0 (((w0.alloc (.cells l1.toArray t1)).alloc (.cells l2.toArray t2)).alloc (.cells l3.toArray t3)) := by
  have c1 := ((Cells.new w0 l1 t1).step (n_after _ (.cells l2.toArray t2))).step (n_after _ (.cells l3.toArray t3))
  have c2 := (Cells.new (w0.alloc (.cells l1.toArray t1)) l2 t2).step (n_after _ (.cells l3.toArray t3))
  have c3 := Cells.new ((w0.alloc (.cells l1.toArray t1)).alloc (.cells l2.toArray t2)) l3 t3
  simp only [World.size_alloc] at c2 c3
  exact ⟨c1, c2, c3, b_step (b_step (n_after _ _) (n_after _ _)) (n_after _ _)⟩

set_option maxHeartbeats 8000000 in
set_option maxRecDepth 100000 in
theorem places_any (t : Pt) (q : Q4) (y : Pt) (Ps As Es : List Pt) (r : Int) (pv av ev : Value) (w0 : World) (hp : Lies w0 pv Ps) (ha : Lies w0 av As) (he : Lies w0 ev Es) (hN : Ps.length + As.length + Es.length < 4611686018427387904) :
    Calls Tryz.prog 3 #[coreV pv av ev r, poseV t q, y.v] w0 fun e W => e = .returned (.bool true) ∧ Below w0.heap.size w0 W := by
  obtain ⟨opv, cpv, rfl, hlc, hcm, _⟩ := hp.form
  obtain ⟨oav, cav, rfl, hlca, hcma, _⟩ := ha.form
  obtain ⟨oev, cev, rfl, hlce, hcme, _⟩ := he.form
  have HAW : Hid _ := fun w' => awake6_any w'
  obtain ⟨P', A', E', r', ok, z1_, z2_, z3_, hA', hU⟩ := place_uni t q Ps As Es r
  clear z1_ z2_ z3_
  have HPU : Hid _ := hU
  clear hU
  have HMV : Hid _ := fun (w' : World) (h1 : Lies w' (.slice opv Ps.length cpv) Ps) (h2 : Lies w' (.slice oav As.length cav) As) (h3 : Lies w' (.slice oev Es.length cev) Es) => moved_any y Ps As Es r _ _ _ w' h1 h2 h3
  have HMR : Hid _ := fun (w' : World) (h1 : Lies w' (.slice opv Ps.length cpv) Ps) (h2 : Lies w' (.slice oav As.length cav) As) (h3 : Lies w' (.slice oev Es.length cev) Es) => rmoved_any y Ps As Es r _ _ _ w' h1 h2 h3
  have HSP0 : Hid _ := fun (w' : World) (h1 : Lies w' (.slice opv Ps.length cpv) Ps) (h2 : Lies w' (.slice oav As.length cav) As) (h3 : Lies w' (.slice oev Es.length cev) Es) => span_any Ps As Es r _ _ _ w' h1 h2 h3
  have HSR0 : Hid _ := fun (w' : World) (h1 : Lies w' (.slice opv Ps.length cpv) Ps) (h2 : Lies w' (.slice oav As.length cav) As) (h3 : Lies w' (.slice oev Es.length cev) Es) => rspan_any Ps As Es r _ _ _ w' h1 h2 h3
  generalize spanP Ps r = bx at HSP0 HSR0
  obtain ⟨⟨s0_, s1_, s2_⟩, ⟨s3_, s4_, s5_⟩⟩ := bx
  unfold Bx.v at HSP0 HSR0
  dsimp only at HSP0 HSR0
  have HML : Hid ((Ps.map (fun p => p.plus y)).length = Ps.length) := List.length_map _
  generalize Ps.map (fun p => p.plus y) = Pm at *
  obtain ⟨tx, ty, tz⟩ := t
  obtain ⟨qw, qx, qy, qz⟩ := q
  obtain ⟨yx, yy, yz⟩ := y
  have LP : Hid _ := hp
  have LA : Hid _ := ha
  have LE : Hid _ := he
  clear hp ha he
  have HS3 : Hid _ := start3 w0 [.slice opv Ps.length cpv, .slice oav As.length cav, .slice oev Es.length cev, .int .i64 r] [.int .i64 tx, .int .i64 ty, .int .i64 tz, .int .i64 qw, .int .i64 qx, .int .i64 qy, .int .i64 qz] [.int .i64 yx, .int .i64 yy, .int .i64 yz] 24 30 31
  unfold coreV poseV Pt.v at *
  dsimp only at *
  obtain ⟨n1, e1⟩ : ∃ n, IntKind.i64.wrap ((Ps.length : Int) + (As.length : Int)) = n := ⟨_, rfl⟩
  obtain ⟨n2, e2⟩ : ∃ n, IntKind.i64.wrap (n1 + (Es.length : Int)) = n := ⟨_, rfl⟩
  have hn1 : n1 = ((Ps.length + As.length : Nat) : Int) := by rw [← e1, IntKind.wrap_i64]; omega
  have hn2 : n2 = ((Ps.length + As.length + Es.length : Nat) : Int) := by rw [← e2, hn1, IntKind.wrap_i64]; omega
  have HN2 : Hid _ := hn2
  clear hn1 hn2
  go_enter Tryz.func3, Tryz.ntmps3
  go_upto_region 1 with fail
  obtain ⟨W1, hW1⟩ : ∃ X, X = ((w0.alloc (.cells #[.slice opv Ps.length cpv, .slice oav As.length cav, .slice oev Es.length cev, .int .i64 r] 24)).alloc (.cells #[.int .i64 tx, .int .i64 ty, .int .i64 tz, .int .i64 qw, .int .i64 qx, .int .i64 qy, .int .i64 qz] 30)).alloc (.cells #[.int .i64 yx, .int .i64 yy, .int .i64 yz] 31) := ⟨_, rfl⟩
  obtain ⟨cb, hcb⟩ : ∃ b, b = w0.heap.size := ⟨_, rfl⟩
  obtain ⟨pb, hpb⟩ : ∃ b, b = w0.heap.size + 1 := ⟨_, rfl⟩
  obtain ⟨yb, hyb⟩ : ∃ b, b = w0.heap.size + 1 + 1 := ⟨_, rfl⟩
  rw [← hW1, ← hyb, ← hpb] at HS3
  have CC : Hid (Cells W1 cb [.slice opv Ps.length cpv, .slice oav As.length cav, .slice oev Es.length cev, .int .i64 r]) := by show Cells _ _ _; rw [hcb]; exact HS3.out.1
  have CP : Hid (Cells W1 pb [.int .i64 tx, .int .i64 ty, .int .i64 tz, .int .i64 qw, .int .i64 qx, .int .i64 qy, .int .i64 qz]) := HS3.out.2.1
  have CY : Hid (Cells W1 yb [.int .i64 yx, .int .i64 yy, .int .i64 yz]) := HS3.out.2.2.1
  have BX : Hid (Below w0.heap.size w0 W1) := HS3.out.2.2.2
  rw [← hW1, ← hyb, ← hpb, ← hcb]
  clear hW1 hcb hpb hyb HS3
  have hb := BX.out
  have LP : Hid _ := Lies.below LP.out hb
  have LA : Hid _ := Lies.below LA.out hb
  have LE : Hid _ := Lies.below LE.out hb
  clear hb
  go_wp2_with (fail)
  refine Calls.mono (HAW.out _) ?_
  rintro e V1 ⟨rfl, hb⟩
  have BX : Hid _ := b_step BX.out hb
  have CC : Hid _ := Cells.step CC.out hb
  have CP : Hid _ := Cells.step CP.out hb
  have CY : Hid _ := Cells.step CY.out hb
  have LP : Hid _ := Lies.below LP.out hb
  have LA : Hid _ := Lies.below LA.out hb
  have LE : Hid _ := Lies.below LE.out hb
  clear hb HAW
  have k0 := (CC.out 0 _ rfl).1
  have k1 := (CC.out 1 _ rfl).1
  have k2 := (CC.out 2 _ rfl).1
  by_cases hgt : 200 < n2
  · go_wp2_with (fail)
    go_ret
    exact ⟨rfl, BX.out⟩
  · have hl1 : Ps.length ≤ 200 := by have := HN2.out; omega
    have hl2 : As.length ≤ 200 := by have := HN2.out; omega
    have hl3 : Es.length ≤ 200 := by have := HN2.out; omega
    go_upto_region 4 with fail
    clear k0 k1 k2 hgt e1 e2 HN2 hN
    have k4 := (CC.out 0 _ rfl).1
    go_upto_region 5 with (at_builtin; refine append_lies rfl _ _ rfl V1.heap.size _ [] rfl (World.ownsRow_nil _ _ _ _) _ Ps rfl LP.out (by simp; omega) (Nat.le_refl _) ?_; intro u4 X1 r4 g4 s4; obtain ⟨o4, c4, e4⟩ := rowp_form r4; subst e4)
    have r4' : X1.ownsRow V1.heap.size 31 3 (.slice o4 Ps.length c4) Ps.length (fl3 Ps) := by simpa using r4
    have hb := grown_none g4
    have BX : Hid _ := b_step BX.out hb
    have CC : Hid _ := Cells.step CC.out hb
    have CP : Hid _ := Cells.step CP.out hb
    have CY : Hid _ := Cells.step CY.out hb
    have LP : Hid _ := Lies.below LP.out hb
    have LA : Hid _ := Lies.below LA.out hb
    have LE : Hid _ := Lies.below LE.out hb
    have LU : Hid _ := Lies.of_row r4'
    clear hb r4 r4' g4 s4 k4
    have k5 := (CC.out 1 _ rfl).1
    go_upto_region 6 with (at_builtin; refine append_lies rfl _ _ rfl X1.heap.size _ [] rfl (World.ownsRow_nil _ _ _ _) _ As rfl LA.out (by simp; omega) (Nat.le_refl _) ?_; intro u5 X2 r5 g5 s5; obtain ⟨o5, c5, e5⟩ := rowp_form r5; subst e5)
    have r5' : X2.ownsRow X1.heap.size 31 3 (.slice o5 As.length c5) As.length (fl3 As) := by simpa using r5
    have hb := grown_none g5
    have BX : Hid _ := b_step BX.out hb
    have CC : Hid _ := Cells.step CC.out hb
    have CP : Hid _ := Cells.step CP.out hb
    have CY : Hid _ := Cells.step CY.out hb
    have LP : Hid _ := Lies.below LP.out hb
    have LA : Hid _ := Lies.below LA.out hb
    have LE : Hid _ := Lies.below LE.out hb
    have LU : Hid _ := Lies.below LU.out hb
    have LV : Hid _ := Lies.of_row r5'
    clear hb r5 r5' g5 s5 k5
    have k6 := (CC.out 2 _ rfl).1
    go_upto_region 7 with (at_builtin; refine append_lies rfl _ _ rfl X2.heap.size _ [] rfl (World.ownsRow_nil _ _ _ _) _ Es rfl LE.out (by simp; omega) (Nat.le_refl _) ?_; intro u6 X3 r6 g6 s6; obtain ⟨o6, c6, e6⟩ := rowp_form r6; subst e6)
    have r6' : X3.ownsRow X2.heap.size 31 3 (.slice o6 Es.length c6) Es.length (fl3 Es) := by simpa using r6
    have hb := grown_none g6
    have BX : Hid _ := b_step BX.out hb
    have CC : Hid _ := Cells.step CC.out hb
    have CP : Hid _ := Cells.step CP.out hb
    have CY : Hid _ := Cells.step CY.out hb
    have LP : Hid _ := Lies.below LP.out hb
    have LA : Hid _ := Lies.below LA.out hb
    have LE : Hid _ := Lies.below LE.out hb
    have LU : Hid _ := Lies.below LU.out hb
    have LV : Hid _ := Lies.below LV.out hb
    have LW : Hid _ := Lies.of_row r6'
    clear hb r6 r6' g6 s6 k6
    obtain ⟨Xc, hXc⟩ : ∃ X, X = X3 := ⟨_, rfl⟩
    have DC : Hid _ := CC
    have DP : Hid _ := LP
    have DA : Hid _ := LA
    have DE : Hid _ := LE
    have DX : Hid _ := BX
    have BC : Hid (Below Xc.heap.size Xc X3) := by show Below _ _ _; rw [hXc]; exact Below.refl _ _
    rw [← hXc] at DC DP DA DE LU LV LW DX
    have hcx : Xc.heap.size ≤ X3.heap.size := by rw [hXc]; exact Nat.le_refl _
    clear hXc BX
    have k0 := (CC.out 0 _ rfl).1
    have k1 := (CC.out 1 _ rfl).1
    have k2 := (CC.out 2 _ rfl).1
    have k3 := (CC.out 3 _ rfl).1
    have p0 := (CP.out 0 _ rfl).1
    have p1 := (CP.out 1 _ rfl).1
    have p2 := (CP.out 2 _ rfl).1
    have p3 := (CP.out 3 _ rfl).1
    have p4 := (CP.out 4 _ rfl).1
    have p5 := (CP.out 5 _ rfl).1
    have p6 := (CP.out 6 _ rfl).1
    have HC1 : Hid _ := (HPU.out (.slice opv Ps.length cpv) (.slice oav As.length cav) (.slice oev Es.length cev) X3 LP.out LA.out LE.out (by omega) (by omega) (by omega)).1
    go_wp2_with (fail)
    refine Calls.mono HC1.out ?_
    rintro e Y1 ⟨vp, va, ve, rfl, hT⟩
    have hb := hT.below
    have CC : Hid _ := Cells.step CC.out hb
    have CP : Hid _ := Cells.step CP.out hb
    have CY : Hid _ := Cells.step CY.out hb
    have LP : Hid _ := Lies.below LP.out hb
    have LA : Hid _ := Lies.below LA.out hb
    have LE : Hid _ := Lies.below LE.out hb
    have BC : Hid _ := b_step BC.out hb
    obtain ⟨oap, cap, rfl⟩ := rowp_form hT.rp
    obtain ⟨oaa, caa, rfl⟩ := rowp_form hT.ra
    obtain ⟨oae, cae, rfl⟩ := rowp_form hT.re
    have RAp : Hid _ := hT.rp
    have RAa : Hid _ := hT.ra
    have RAe : Hid _ := hT.re
    have hs1 : X3.heap.size ≤ Y1.heap.size := hb.size
    clear hT hb HC1 k0 k1 k2 k3 p0 p1 p2 p3 p4 p5 p6
    go_upto_region 8 with fail
    obtain ⟨X4, hX⟩ : ∃ X, X = Y1.alloc (.cells #[.slice oap P'.length cap, .slice oaa A'.length caa, .slice oae E'.length cae, .int .i64 r'] 24) := ⟨_, rfl⟩
    obtain ⟨ab, hbx⟩ : ∃ b, b = Y1.heap.size := ⟨_, rfl⟩
    have CA : Hid (Cells X4 ab [.slice oap P'.length cap, .slice oaa A'.length caa, .slice oae E'.length cae, .int .i64 r']) := by show Cells _ _ _; rw [hX, hbx]; exact Cells.new Y1 _ _
    have hb9 : Below Y1.heap.size Y1 X4 := by rw [hX]; exact n_after _ _
    have NA1 : Hid (∀ b, (Value.slice oaa A'.length caa).ownBlock = some b → b < ab) := fun b e => by rw [hbx]; exact (World.ownsRow.lt RAa.out b e).2
    have CC : Hid _ := Cells.step CC.out hb9
    have CP : Hid _ := Cells.step CP.out hb9
    have CY : Hid _ := Cells.step CY.out hb9
    have LP : Hid _ := Lies.below LP.out hb9
    have LA : Hid _ := Lies.below LA.out hb9
    have LE : Hid _ := Lies.below LE.out hb9
    have BC : Hid _ := b_step BC.out hb9
    have RAp : Hid _ := own_below RAp.out hb9
    have RAa : Hid _ := own_below RAa.out hb9
    have RAe : Hid _ := own_below RAe.out hb9
    rw [← hX, ← hbx]
    clear hX hb9 hbx
    have k0 := (CC.out 0 _ rfl).1
    have k1 := (CC.out 1 _ rfl).1
    have k2 := (CC.out 2 _ rfl).1
    have k3 := (CC.out 3 _ rfl).1
    have p0 := (CP.out 0 _ rfl).1
    have p1 := (CP.out 1 _ rfl).1
    have p2 := (CP.out 2 _ rfl).1
    have p3 := (CP.out 3 _ rfl).1
    have p4 := (CP.out 4 _ rfl).1
    have p5 := (CP.out 5 _ rfl).1
    have p6 := (CP.out 6 _ rfl).1
    have HC1 : Hid _ := (HPU.out (.slice opv Ps.length cpv) (.slice oav As.length cav) (.slice oev Es.length cev) X4 LP.out LA.out LE.out (by omega) (by omega) (by omega)).2
    go_wp2_with (fail)
    refine Calls.mono HC1.out ?_
    rintro e Y2 ⟨vp, va, ve, rfl, hT⟩
    have hb := hT.below
    have CC : Hid _ := Cells.step CC.out hb
    have CP : Hid _ := Cells.step CP.out hb
    have CY : Hid _ := Cells.step CY.out hb
    have LP : Hid _ := Lies.below LP.out hb
    have LA : Hid _ := Lies.below LA.out hb
    have LE : Hid _ := Lies.below LE.out hb
    have BC : Hid _ := b_step BC.out hb
    have CA : Hid _ := Cells.step CA.out hb
    have RAp : Hid _ := own_below RAp.out hb
    have RAa : Hid _ := own_below RAa.out hb
    have RAe : Hid _ := own_below RAe.out hb
    obtain ⟨obp, cbp, rfl⟩ := rowp_form hT.rp
    obtain ⟨oba, cba, rfl⟩ := rowp_form hT.ra
    obtain ⟨obe, cbe, rfl⟩ := rowp_form hT.re
    have RBp : Hid _ := hT.rp
    have RBa : Hid _ := hT.ra
    have RBe : Hid _ := hT.re
    have hs2 : ab < Y2.heap.size := Cells.lt CA.out
    clear hT hb HC1 k0 k1 k2 k3 p0 p1 p2 p3 p4 p5 p6 HPU
    go_upto_region 9 with fail
    obtain ⟨X5, hX⟩ : ∃ X, X = Y2.alloc (.cells #[.slice obp P'.length cbp, .slice oba A'.length cba, .slice obe E'.length cbe, .int .i64 r'] 24) := ⟨_, rfl⟩
    obtain ⟨bb, hbx⟩ : ∃ b, b = Y2.heap.size := ⟨_, rfl⟩
    have CB : Hid (Cells X5 bb [.slice obp P'.length cbp, .slice oba A'.length cba, .slice obe E'.length cbe, .int .i64 r']) := by show Cells _ _ _; rw [hX, hbx]; exact Cells.new Y2 _ _
    have hb9 : Below Y2.heap.size Y2 X5 := by rw [hX]; exact n_after _ _
    have CC : Hid _ := Cells.step CC.out hb9
    have CP : Hid _ := Cells.step CP.out hb9
    have CY : Hid _ := Cells.step CY.out hb9
    have LP : Hid _ := Lies.below LP.out hb9
    have LA : Hid _ := Lies.below LA.out hb9
    have LE : Hid _ := Lies.below LE.out hb9
    have BC : Hid _ := b_step BC.out hb9
    have CA : Hid _ := Cells.step CA.out hb9
    have RAp : Hid _ := own_below RAp.out hb9
    have RAa : Hid _ := own_below RAa.out hb9
    have RAe : Hid _ := own_below RAe.out hb9
    have RBp : Hid _ := own_below RBp.out hb9
    have RBa : Hid _ := own_below RBa.out hb9
    have RBe : Hid _ := own_below RBe.out hb9
    rw [← hX, ← hbx]
    clear hX hb9 hbx
    have hs5 : ab < X5.heap.size := Cells.lt CA.out
    have hcx5 : Xc.heap.size ≤ X5.heap.size := BC.out.size
    have k0 := (CC.out 0 _ rfl).1
    have k1 := (CC.out 1 _ rfl).1
    have k2 := (CC.out 2 _ rfl).1
    have k3 := (CC.out 3 _ rfl).1
    have p0 := (CY.out 0 _ rfl).1
    have p1 := (CY.out 1 _ rfl).1
    have p2 := (CY.out 2 _ rfl).1
    have HC1 : Hid _ := HMV.out X5 LP.out LA.out LE.out (by omega) (by omega) (by omega)
    go_wp2_with (fail)
    refine Calls.mono HC1.out ?_
    rintro e Y3 ⟨vp, va, ve, rfl, hT⟩
    have hb := hT.below
    have CC : Hid _ := Cells.step CC.out hb
    have CP : Hid _ := Cells.step CP.out hb
    have CY : Hid _ := Cells.step CY.out hb
    have LP : Hid _ := Lies.below LP.out hb
    have LA : Hid _ := Lies.below LA.out hb
    have LE : Hid _ := Lies.below LE.out hb
    have BC : Hid _ := b_step BC.out hb
    have CA : Hid _ := Cells.step CA.out hb
    have CB : Hid _ := Cells.step CB.out hb
    have RAp : Hid _ := own_below RAp.out hb
    have RAa : Hid _ := own_below RAa.out hb
    have RAe : Hid _ := own_below RAe.out hb
    have RBp : Hid _ := own_below RBp.out hb
    have RBa : Hid _ := own_below RBa.out hb
    have RBe : Hid _ := own_below RBe.out hb
    obtain ⟨omp, cmp, rfl⟩ := rowp_form hT.rp
    obtain ⟨oma, cma, rfl⟩ := rowp_form hT.ra
    obtain ⟨ome, cme, rfl⟩ := rowp_form hT.re
    have RMp : Hid _ := hT.rp
    have RMa : Hid _ := hT.ra
    have RMe : Hid _ := hT.re
    have hs3 : bb < Y3.heap.size := Cells.lt CB.out
    have hs4 : X5.heap.size ≤ Y3.heap.size := hb.size
    clear hT hb HC1 k0 k1 k2 k3 p0 p1 p2
    go_upto_region 10 with fail
    obtain ⟨X6, hX⟩ : ∃ X, X = Y3.alloc (.cells #[.slice omp Pm.length cmp, .slice oma As.length cma, .slice ome Es.length cme, .int .i64 r] 24) := ⟨_, rfl⟩
    obtain ⟨mb, hbx⟩ : ∃ b, b = Y3.heap.size := ⟨_, rfl⟩
    have CM : Hid (Cells X6 mb [.slice omp Pm.length cmp, .slice oma As.length cma, .slice ome Es.length cme, .int .i64 r]) := by show Cells _ _ _; rw [hX, hbx]; exact Cells.new Y3 _ _
    have hb9 : Below Y3.heap.size Y3 X6 := by rw [hX]; exact n_after _ _
    have NM1 : Hid (∀ b, (Value.slice omp Pm.length cmp).ownBlock = some b → b < mb ∧ ab < b) := fun b e => by
      rw [hbx]
      have h7 := World.ownsRow.lt RMp.out b e
      omega
    have NM2 : Hid (∀ b, (Value.slice oma As.length cma).ownBlock = some b → b < mb ∧ ab < b) := fun b e => by
      rw [hbx]
      have h7 := World.ownsRow.lt RMa.out b e
      omega
    have NA2 : Hid (∀ b, (Value.slice oaa A'.length caa).ownBlock = some b → b < mb) := fun b e => by rw [hbx]; exact (World.ownsRow.lt RAa.out b e).2
    have CC : Hid _ := Cells.step CC.out hb9
    have CP : Hid _ := Cells.step CP.out hb9
    have CY : Hid _ := Cells.step CY.out hb9
    have LP : Hid _ := Lies.below LP.out hb9
    have LA : Hid _ := Lies.below LA.out hb9
    have LE : Hid _ := Lies.below LE.out hb9
    have BC : Hid _ := b_step BC.out hb9
    have CA : Hid _ := Cells.step CA.out hb9
    have CB : Hid _ := Cells.step CB.out hb9
    have RAp : Hid _ := own_below RAp.out hb9
    have RAa : Hid _ := own_below RAa.out hb9
    have RAe : Hid _ := own_below RAe.out hb9
    have RBp : Hid _ := own_below RBp.out hb9
    have RBa : Hid _ := own_below RBa.out hb9
    have RBe : Hid _ := own_below RBe.out hb9
    have RMp : Hid _ := own_below RMp.out hb9
    have RMa : Hid _ := own_below RMa.out hb9
    have RMe : Hid _ := own_below RMe.out hb9
    rw [← hX, ← hbx]
    clear hX hb9 hbx
    have k0 := (CC.out 0 _ rfl).1
    have k1 := (CC.out 1 _ rfl).1
    have k2 := (CC.out 2 _ rfl).1
    have k3 := (CC.out 3 _ rfl).1
    have p0 := (CY.out 0 _ rfl).1
    have p1 := (CY.out 1 _ rfl).1
    have p2 := (CY.out 2 _ rfl).1
    have HC1 : Hid _ := HMR.out X6 LP.out LA.out LE.out (by omega) (by omega) (by omega)
    go_wp2_with (fail)
    refine Calls.mono HC1.out ?_
    rintro e Y4 ⟨vp, va, ve, rfl, hT⟩
    have hb := hT.below
    have CC : Hid _ := Cells.step CC.out hb
    have CP : Hid _ := Cells.step CP.out hb
    have CY : Hid _ := Cells.step CY.out hb
    have LP : Hid _ := Lies.below LP.out hb
    have LA : Hid _ := Lies.below LA.out hb
    have LE : Hid _ := Lies.below LE.out hb
    have BC : Hid _ := b_step BC.out hb
    have CA : Hid _ := Cells.step CA.out hb
    have CB : Hid _ := Cells.step CB.out hb
    have CM : Hid _ := Cells.step CM.out hb
    have RAp : Hid _ := own_below RAp.out hb
    have RAa : Hid _ := own_below RAa.out hb
    have RAe : Hid _ := own_below RAe.out hb
    have RBp : Hid _ := own_below RBp.out hb
    have RBa : Hid _ := own_below RBa.out hb
    have RBe : Hid _ := own_below RBe.out hb
    have RMp : Hid _ := own_below RMp.out hb
    have RMa : Hid _ := own_below RMa.out hb
    have RMe : Hid _ := own_below RMe.out hb
    obtain ⟨onp, cnp, rfl⟩ := rowp_form hT.rp
    obtain ⟨ona, cna, rfl⟩ := rowp_form hT.ra
    obtain ⟨one, cne, rfl⟩ := rowp_form hT.re
    have RNp : Hid _ := hT.rp
    have RNa : Hid _ := hT.ra
    have RNe : Hid _ := hT.re
    have hs6 : mb < Y4.heap.size := Cells.lt CM.out
    clear hT hb HC1 k0 k1 k2 k3 p0 p1 p2 HMV HMR
    go_upto_region 11 with fail
    obtain ⟨X7, hX⟩ : ∃ X, X = Y4.alloc (.cells #[.slice onp Pm.length cnp, .slice ona As.length cna, .slice one Es.length cne, .int .i64 r] 24) := ⟨_, rfl⟩
    obtain ⟨nb, hbx⟩ : ∃ b, b = Y4.heap.size := ⟨_, rfl⟩
    have CN : Hid (Cells X7 nb [.slice onp Pm.length cnp, .slice ona As.length cna, .slice one Es.length cne, .int .i64 r]) := by show Cells _ _ _; rw [hX, hbx]; exact Cells.new Y4 _ _
    have hb9 : Below Y4.heap.size Y4 X7 := by rw [hX]; exact n_after _ _
    have CC : Hid _ := Cells.step CC.out hb9
    have CP : Hid _ := Cells.step CP.out hb9
    have CY : Hid _ := Cells.step CY.out hb9
    have LP : Hid _ := Lies.below LP.out hb9
    have LA : Hid _ := Lies.below LA.out hb9
    have LE : Hid _ := Lies.below LE.out hb9
    have BC : Hid _ := b_step BC.out hb9
    have CA : Hid _ := Cells.step CA.out hb9
    have CB : Hid _ := Cells.step CB.out hb9
    have CM : Hid _ := Cells.step CM.out hb9
    have RAp : Hid _ := own_below RAp.out hb9
    have RAa : Hid _ := own_below RAa.out hb9
    have RAe : Hid _ := own_below RAe.out hb9
    have RBp : Hid _ := own_below RBp.out hb9
    have RBa : Hid _ := own_below RBa.out hb9
    have RBe : Hid _ := own_below RBe.out hb9
    have RMp : Hid _ := own_below RMp.out hb9
    have RMa : Hid _ := own_below RMa.out hb9
    have RMe : Hid _ := own_below RMe.out hb9
    have RNp : Hid _ := own_below RNp.out hb9
    have RNa : Hid _ := own_below RNa.out hb9
    have RNe : Hid _ := own_below RNe.out hb9
    rw [← hX, ← hbx]
    clear hX hb9 hbx
    have ca0_ := (CA.out 0 _ rfl).1
    have ca1_ := (CA.out 1 _ rfl).1
    have ca2_ := (CA.out 2 _ rfl).1
    have ca3_ := (CA.out 3 _ rfl).1
    have cb_0_ := (CB.out 0 _ rfl).1
    have cb_1_ := (CB.out 1 _ rfl).1
    have cb_2_ := (CB.out 2 _ rfl).1
    have cb_3_ := (CB.out 3 _ rfl).1
    have cm0_ := (CM.out 0 _ rfl).1
    have cm1_ := (CM.out 1 _ rfl).1
    have cm2_ := (CM.out 2 _ rfl).1
    have cm3_ := (CM.out 3 _ rfl).1
    have cn0_ := (CN.out 0 _ rfl).1
    have cn1_ := (CN.out 1 _ rfl).1
    have cn2_ := (CN.out 2 _ rfl).1
    have cn3_ := (CN.out 3 _ rfl).1
    have LAp : Hid _ := Lies.of_row RAp.out
    have LAa : Hid _ := Lies.of_row RAa.out
    have LAe : Hid _ := Lies.of_row RAe.out
    have LBp : Hid _ := Lies.of_row RBp.out
    have LBa : Hid _ := Lies.of_row RBa.out
    have LBe : Hid _ := Lies.of_row RBe.out
    have LMp : Hid _ := Lies.of_row RMp.out
    have LMa : Hid _ := Lies.of_row RMa.out
    have LMe : Hid _ := Lies.of_row RMe.out
    have LNp : Hid _ := Lies.of_row RNp.out
    have LNa : Hid _ := Lies.of_row RNa.out
    have LNe : Hid _ := Lies.of_row RNe.out
    go_cut [17] from 62 to 69 (fun s17 wx => s17 = .bool true ∧ Hid (Below X7.heap.size X7 wx))
    case first =>
      clear HSP0 HSR0 DC DP DA DE DX LU LV LW RAp RAa RAe RBp RBa RBe RMp RMa RMe RNp RNa RNe CC CP CY LP LA LE BC NM1 NM2 NA1 NA2
      have HC1 : Hid _ := cores6_same (.slice oap P'.length cap) (.slice oaa A'.length caa) (.slice oae E'.length cae) (.slice obp P'.length cbp) (.slice oba A'.length cba) (.slice obe E'.length cbe) P' A' E' r' X7 LAp.out LAa.out LAe.out LBp.out LBa.out LBe.out
      go_wp2_with (fail)
      refine Calls.mono HC1.out ?_
      rintro e V7 ⟨rfl, hb⟩
      have cm0_ := c_after hb cm0_
      have cm1_ := c_after hb cm1_
      have cm2_ := c_after hb cm2_
      have cm3_ := c_after hb cm3_
      have cn0_ := c_after hb cn0_
      have cn1_ := c_after hb cn1_
      have cn2_ := c_after hb cn2_
      have cn3_ := c_after hb cn3_
      have HC2 : Hid _ := cores6_same (.slice omp Pm.length cmp) (.slice oma As.length cma) (.slice ome Es.length cme) (.slice onp Pm.length cnp) (.slice ona As.length cna) (.slice one Es.length cne) Pm As Es r V7 (Lies.below LMp.out hb) (Lies.below LMa.out hb) (Lies.below LMe.out hb) (Lies.below LNp.out hb) (Lies.below LNa.out hb) (Lies.below LNe.out hb)
      go_wp2_with (fail)
      refine Calls.mono HC2.out ?_
      rintro e V8 ⟨rfl, hb2⟩
      have HZ : Hid _ := b_step hb hb2
      clear hb hb2
      go_wp2_with (fail)
      go_meet
      case rel => exact ⟨rfl, HZ⟩
    case rest =>
      obtain ⟨rfl, HZ⟩ := hcut
      have HLS : Hid (LS Xc wc mb [.slice omp Pm.length cmp, .slice oma As.length cma, .slice ome Es.length cme, .int .i64 r] ab [.slice oap P'.length cap, .slice oaa A'.length caa, .slice oae E'.length cae, .int .i64 r'] (.slice omp Pm.length cmp) (.slice oma As.length cma) (.slice oaa A'.length caa)) := ⟨b_step BC.out HZ.out, Cells.step CM.out HZ.out, Cells.step CA.out HZ.out, Wrt.of_row (own_le (own_below RMp.out HZ.out) hcx5) (fun e => by have h7 := NM1.out _ e; omega) (fun e => by have h7 := NM1.out _ e; omega), Wrt.of_row (own_le (own_below RMa.out HZ.out) hcx5) (fun e => by have h7 := NM2.out _ e; omega) (fun e => by have h7 := NM2.out _ e; omega), Wrt.of_row (own_le (own_below RAa.out HZ.out) hcx) (fun e => by have h7 := NA2.out _ e; omega) (fun e => by have h7 := NA1.out _ e; omega)⟩
      clear HZ ca0_ ca1_ ca2_ ca3_ cb_0_ cb_1_ cb_2_ cb_3_ cm0_ cm1_ cm2_ cm3_ cn0_ cn1_ cn2_ cn3_ LAp LAa LAe LBp LBa LBe LMp LMa LMe LNp LNa LNe RAp RAa RAe RBp RBa RBe RMp RMa RMe RNp RNa RNe CC CP CY LP LA LE BC CA CB CM CN NM1 NM2 NA1 NA2 hs1 hs2 hs3 hs4 hs5 hs6 hcx hcx5
      have hpl : Pm.length ≤ 200 := by have := HML.out; omega
      have hal : A'.length ≤ 200 := by omega
      clear HML hA'
      go_wp2_with (fail)
      go_loopg [18] Pm.length (fun gm s18 wr => ∃ i : Nat, s18 = .int .i64 (i : Int) ∧ i ≤ Pm.length ∧ gm = Pm.length - i ∧ Hid (LS Xc wr mb [.slice omp Pm.length cmp, .slice oma As.length cma, .slice ome Es.length cme, .int .i64 r] ab [.slice oap P'.length cap, .slice oaa A'.length caa, .slice oae E'.length cae, .int .i64 r'] (.slice omp Pm.length cmp) (.slice oma As.length cma) (.slice oaa A'.length caa)))
      case atStart => exact ⟨0, rfl, Nat.zero_le _, rfl, HLS⟩
      case round =>
        clear HLS
        obtain ⟨i, rfl, hi, hgm, HLS⟩ := hrel
        have HG1 : Hid _ := hgm
        clear hgm
        have m0 := (HLS.out.cm 0 _ rfl).1
        by_cases hit : i < Pm.length
        · obtain ⟨g7, e7, h7, h8, h9, ⟨z7, hz7⟩, hf7⟩ := Wrt.at HLS.out.w1 hit
          subst e7
          go_wp2_with (fail)
          go_roundg (Pm.length - (i + 1))
          case rel => exact ⟨i + 1, rfl, by omega, rfl, HLS.out.put h7 h8 h9 _ _⟩
          case measure => have := HG1.out; omega
        · obtain rfl : i = Pm.length := by omega
          clear hit hi HG1
          go_wp2_with (fail)
          go_loopg [19] As.length (fun gm s19 wr => ∃ i : Nat, s19 = .int .i64 (i : Int) ∧ i ≤ As.length ∧ gm = As.length - i ∧ Hid (LS Xc wr mb [.slice omp Pm.length cmp, .slice oma As.length cma, .slice ome Es.length cme, .int .i64 r] ab [.slice oap P'.length cap, .slice oaa A'.length caa, .slice oae E'.length cae, .int .i64 r'] (.slice omp Pm.length cmp) (.slice oma As.length cma) (.slice oaa A'.length caa)))
          case atStart => exact ⟨0, rfl, Nat.zero_le _, rfl, HLS⟩
          case round =>
            clear HLS
            obtain ⟨i, rfl, hi, hgm, HLS⟩ := hrel
            have HG1 : Hid _ := hgm
            clear hgm
            have m0 := (HLS.out.cm 1 _ rfl).1
            by_cases hit : i < As.length
            · obtain ⟨g7, e7, h7, h8, h9, ⟨z7, hz7⟩, hf7⟩ := Wrt.at HLS.out.w2 hit
              subst e7
              go_wp2_with (fail)
              go_roundg (As.length - (i + 1))
              case rel => exact ⟨i + 1, rfl, by omega, rfl, HLS.out.put h7 h8 h9 _ _⟩
              case measure => have := HG1.out; omega
            · obtain rfl : i = As.length := by omega
              clear hit hi HG1
              go_wp2_with (fail)
              go_loopg [20] A'.length (fun gm s20 wr => ∃ i : Nat, s20 = .int .i64 (i : Int) ∧ i ≤ A'.length ∧ gm = A'.length - i ∧ Hid (LS Xc wr mb [.slice omp Pm.length cmp, .slice oma As.length cma, .slice ome Es.length cme, .int .i64 r] ab [.slice oap P'.length cap, .slice oaa A'.length caa, .slice oae E'.length cae, .int .i64 r'] (.slice omp Pm.length cmp) (.slice oma As.length cma) (.slice oaa A'.length caa)))
              case atStart => exact ⟨0, rfl, Nat.zero_le _, rfl, HLS⟩
              case round =>
                clear HLS
                obtain ⟨i, rfl, hi, hgm, HLS⟩ := hrel
                have HG1 : Hid _ := hgm
                clear hgm
                have m0 := (HLS.out.ca 1 _ rfl).1
                by_cases hit : i < A'.length
                · obtain ⟨g7, e7, h7, h8, h9, ⟨z7, hz7⟩, hf7⟩ := Wrt.at HLS.out.w3 hit
                  subst e7
                  go_wp2_with (fail)
                  go_roundg (A'.length - (i + 1))
                  case rel => exact ⟨i + 1, rfl, by omega, rfl, HLS.out.put h7 h8 h9 _ _⟩
                  case measure => have := HG1.out; omega
                · obtain rfl : i = A'.length := by omega
                  clear hit hi HG1
                  go_upto_region 24 with fail
                  obtain ⟨Yf, hYf⟩ : ∃ X : World, X = wr := ⟨_, rfl⟩
                  rw [← hYf] at HLS ⊢
                  clear hYf
                  have hbe := HLS.out.be
                  have EU : Hid _ := Lies.below LU.out hbe
                  have EV : Hid _ := Lies.below LV.out hbe
                  have EW : Hid _ := Lies.below LW.out hbe
                  have EP : Hid _ := Lies.below DP.out hbe
                  have EA : Hid _ := Lies.below DA.out hbe
                  have EE : Hid _ := Lies.below DE.out hbe
                  have EX : Hid _ := b_step DX.out hbe
                  have EC : Hid _ := Cells.step DC.out hbe
                  have cc0_ := (EC.out 0 _ rfl).1
                  have cc1_ := (EC.out 1 _ rfl).1
                  have cc2_ := (EC.out 2 _ rfl).1
                  have cc3_ := (EC.out 3 _ rfl).1
                  clear hbe HLS DC DP DA DE DX LU LV LW EC
                  refine RV.region_by (fun j v w => match j with | 0 => v = .bool (true) | 1 => v = .bool (true) | 2 => v = .bool (true) | 3 => v = .bool (true) | 4 => v = .bool (true) | 5 => v = .bool (ok) | 6 => v = .bool (ok) | 7 => v = .bool (true) | 8 => v = .bool (true) | 9 => v = .bool (true) | 10 => v = .slice o4 Ps.length c4 | 11 => v = .pointer (some ⟨cb, 0, none⟩) | 12 => v = .slice opv Ps.length cpv | 13 => v = .bool (true) | 14 => v = .bool (true) | 15 => v = .bool (true) | 16 => v = .slice o5 As.length c5 | 17 => v = .pointer (some ⟨cb, 1, none⟩) | 18 => v = .slice oav As.length cav | 19 => v = .bool (true) | 20 => v = .bool (true) | 21 => v = .bool (true) | 22 => v = .slice o6 Es.length c6 | 23 => v = .pointer (some ⟨cb, 2, none⟩) | 24 => v = .slice oev Es.length cev | 25 => v = .bool (true) | 26 => v = .bool (true) | 27 => v = .bool (true) | 28 => v = .agg #[.slice opv Ps.length cpv, .slice oav As.length cav, .slice oev Es.length cev, .int .i64 r] | 29 => v = .agg #[.int .i64 s0_, .int .i64 s1_, .int .i64 s2_, .int .i64 s3_, .int .i64 s4_, .int .i64 s5_] | 30 => v = .agg #[.slice opv Ps.length cpv, .slice oav As.length cav, .slice oev Es.length cev, .int .i64 r] | 31 => v = .agg #[.int .i64 s0_, .int .i64 s1_, .int .i64 s2_, .int .i64 s3_, .int .i64 s4_, .int .i64 s5_] | 32 => v = .bool (true) | 33 => v = .bool (true) | 34 => v = .bool (true) | _ => True) (fun γ L w9 => Below Yf.heap.size Yf w9) (by kernel_rfl) (by kernel_rfl) (by kernel_rfl) (by kernel_rfl) ?_ ?_ ?_
                  · exact (Below.refl _ Yf).drew
                  · generalize hD : dstOf _ = D
                    generalize hWA : waitsFor _ = WA
                    generalize hZ : Act.mk _ _ = Z
                    obtain ⟨R, hR⟩ : ∃ R : Nat → Value → World → Prop, R = (fun j v w => match j with | 0 => v = .bool (true) | 1 => v = .bool (true) | 2 => v = .bool (true) | 3 => v = .bool (true) | 4 => v = .bool (true) | 5 => v = .bool (ok) | 6 => v = .bool (ok) | 7 => v = .bool (true) | 8 => v = .bool (true) | 9 => v = .bool (true) | 10 => v = .slice o4 Ps.length c4 | 11 => v = .pointer (some ⟨cb, 0, none⟩) | 12 => v = .slice opv Ps.length cpv | 13 => v = .bool (true) | 14 => v = .bool (true) | 15 => v = .bool (true) | 16 => v = .slice o5 As.length c5 | 17 => v = .pointer (some ⟨cb, 1, none⟩) | 18 => v = .slice oav As.length cav | 19 => v = .bool (true) | 20 => v = .bool (true) | 21 => v = .bool (true) | 22 => v = .slice o6 Es.length c6 | 23 => v = .pointer (some ⟨cb, 2, none⟩) | 24 => v = .slice oev Es.length cev | 25 => v = .bool (true) | 26 => v = .bool (true) | 27 => v = .bool (true) | 28 => v = .agg #[.slice opv Ps.length cpv, .slice oav As.length cav, .slice oev Es.length cev, .int .i64 r] | 29 => v = .agg #[.int .i64 s0_, .int .i64 s1_, .int .i64 s2_, .int .i64 s3_, .int .i64 s4_, .int .i64 s5_] | 30 => v = .agg #[.slice opv Ps.length cpv, .slice oav As.length cav, .slice oev Es.length cev, .int .i64 r] | 31 => v = .agg #[.int .i64 s0_, .int .i64 s1_, .int .i64 s2_, .int .i64 s3_, .int .i64 s4_, .int .i64 s5_] | 32 => v = .bool (true) | 33 => v = .bool (true) | 34 => v = .bool (true) | _ => True) := ⟨_, rfl⟩
                    rw [← hR]
                    have d0 : D 0 = some 106 := by rw [← hD]; rfl
                    have d1 : D 1 = some 107 := by rw [← hD]; rfl
                    have d2 : D 2 = some 108 := by rw [← hD]; rfl
                    have d3 : D 3 = some 109 := by rw [← hD]; rfl
                    have d4 : D 4 = some 110 := by rw [← hD]; rfl
                    have d5 : D 5 = some 111 := by rw [← hD]; rfl
                    have d6 : D 6 = some 112 := by rw [← hD]; rfl
                    have d7 : D 7 = some 113 := by rw [← hD]; rfl
                    have d8 : D 8 = some 114 := by rw [← hD]; rfl
                    have d9 : D 9 = some 115 := by rw [← hD]; rfl
                    have d10 : D 10 = some 116 := by rw [← hD]; rfl
                    have d11 : D 11 = some 117 := by rw [← hD]; rfl
                    have d12 : D 12 = some 118 := by rw [← hD]; rfl
                    have d13 : D 13 = some 119 := by rw [← hD]; rfl
                    have d14 : D 14 = some 120 := by rw [← hD]; rfl
                    have d15 : D 15 = some 121 := by rw [← hD]; rfl
                    have d16 : D 16 = some 122 := by rw [← hD]; rfl
                    have d17 : D 17 = some 123 := by rw [← hD]; rfl
                    have d18 : D 18 = some 124 := by rw [← hD]; rfl
                    have d19 : D 19 = some 125 := by rw [← hD]; rfl
                    have d20 : D 20 = some 126 := by rw [← hD]; rfl
                    have d21 : D 21 = some 127 := by rw [← hD]; rfl
                    have d22 : D 22 = some 128 := by rw [← hD]; rfl
                    have d23 : D 23 = some 129 := by rw [← hD]; rfl
                    have d24 : D 24 = some 130 := by rw [← hD]; rfl
                    have d25 : D 25 = some 131 := by rw [← hD]; rfl
                    have d26 : D 26 = some 132 := by rw [← hD]; rfl
                    have d27 : D 27 = some 133 := by rw [← hD]; rfl
                    have d28 : D 28 = some 134 := by rw [← hD]; rfl
                    have d29 : D 29 = some 135 := by rw [← hD]; rfl
                    have d30 : D 30 = some 136 := by rw [← hD]; rfl
                    have d31 : D 31 = some 137 := by rw [← hD]; rfl
                    have d32 : D 32 = some 138 := by rw [← hD]; rfl
                    have d33 : D 33 = some 139 := by rw [← hD]; rfl
                    have d34 : D 34 = some 6 := by rw [← hD]; rfl
                    have r0 : ∀ v w, R 0 v w = (v = .bool (true)) := fun v w => by rw [hR]; rfl
                    have r1 : ∀ v w, R 1 v w = (v = .bool (true)) := fun v w => by rw [hR]; rfl
                    have r2 : ∀ v w, R 2 v w = (v = .bool (true)) := fun v w => by rw [hR]; rfl
                    have r3 : ∀ v w, R 3 v w = (v = .bool (true)) := fun v w => by rw [hR]; rfl
                    have r4 : ∀ v w, R 4 v w = (v = .bool (true)) := fun v w => by rw [hR]; rfl
                    have r5 : ∀ v w, R 5 v w = (v = .bool (ok)) := fun v w => by rw [hR]; rfl
                    have r6 : ∀ v w, R 6 v w = (v = .bool (ok)) := fun v w => by rw [hR]; rfl
                    have r7 : ∀ v w, R 7 v w = (v = .bool (true)) := fun v w => by rw [hR]; rfl
                    have r8 : ∀ v w, R 8 v w = (v = .bool (true)) := fun v w => by rw [hR]; rfl
                    have r9 : ∀ v w, R 9 v w = (v = .bool (true)) := fun v w => by rw [hR]; rfl
                    have r10 : ∀ v w, R 10 v w = (v = .slice o4 Ps.length c4) := fun v w => by rw [hR]; rfl
                    have r11 : ∀ v w, R 11 v w = (v = .pointer (some ⟨cb, 0, none⟩)) := fun v w => by rw [hR]; rfl
                    have r12 : ∀ v w, R 12 v w = (v = .slice opv Ps.length cpv) := fun v w => by rw [hR]; rfl
                    have r13 : ∀ v w, R 13 v w = (v = .bool (true)) := fun v w => by rw [hR]; rfl
                    have r14 : ∀ v w, R 14 v w = (v = .bool (true)) := fun v w => by rw [hR]; rfl
                    have r15 : ∀ v w, R 15 v w = (v = .bool (true)) := fun v w => by rw [hR]; rfl
                    have r16 : ∀ v w, R 16 v w = (v = .slice o5 As.length c5) := fun v w => by rw [hR]; rfl
                    have r17 : ∀ v w, R 17 v w = (v = .pointer (some ⟨cb, 1, none⟩)) := fun v w => by rw [hR]; rfl
                    have r18 : ∀ v w, R 18 v w = (v = .slice oav As.length cav) := fun v w => by rw [hR]; rfl
                    have r19 : ∀ v w, R 19 v w = (v = .bool (true)) := fun v w => by rw [hR]; rfl
                    have r20 : ∀ v w, R 20 v w = (v = .bool (true)) := fun v w => by rw [hR]; rfl
                    have r21 : ∀ v w, R 21 v w = (v = .bool (true)) := fun v w => by rw [hR]; rfl
                    have r22 : ∀ v w, R 22 v w = (v = .slice o6 Es.length c6) := fun v w => by rw [hR]; rfl
                    have r23 : ∀ v w, R 23 v w = (v = .pointer (some ⟨cb, 2, none⟩)) := fun v w => by rw [hR]; rfl
                    have r24 : ∀ v w, R 24 v w = (v = .slice oev Es.length cev) := fun v w => by rw [hR]; rfl
                    have r25 : ∀ v w, R 25 v w = (v = .bool (true)) := fun v w => by rw [hR]; rfl
                    have r26 : ∀ v w, R 26 v w = (v = .bool (true)) := fun v w => by rw [hR]; rfl
                    have r27 : ∀ v w, R 27 v w = (v = .bool (true)) := fun v w => by rw [hR]; rfl
                    have r28 : ∀ v w, R 28 v w = (v = .agg #[.slice opv Ps.length cpv, .slice oav As.length cav, .slice oev Es.length cev, .int .i64 r]) := fun v w => by rw [hR]; rfl
                    have r29 : ∀ v w, R 29 v w = (v = .agg #[.int .i64 s0_, .int .i64 s1_, .int .i64 s2_, .int .i64 s3_, .int .i64 s4_, .int .i64 s5_]) := fun v w => by rw [hR]; rfl
                    have r30 : ∀ v w, R 30 v w = (v = .agg #[.slice opv Ps.length cpv, .slice oav As.length cav, .slice oev Es.length cev, .int .i64 r]) := fun v w => by rw [hR]; rfl
                    have r31 : ∀ v w, R 31 v w = (v = .agg #[.int .i64 s0_, .int .i64 s1_, .int .i64 s2_, .int .i64 s3_, .int .i64 s4_, .int .i64 s5_]) := fun v w => by rw [hR]; rfl
                    have r32 : ∀ v w, R 32 v w = (v = .bool (true)) := fun v w => by rw [hR]; rfl
                    have r33 : ∀ v w, R 33 v w = (v = .bool (true)) := fun v w => by rw [hR]; rfl
                    have r34 : ∀ v w, R 34 v w = (v = .bool (true)) := fun v w => by rw [hR]; rfl
                    have E3 : ∀ (γ : Nat → Value) (L : Nat → Bool) (a : Act) (w : World), RV.Held D WA R (fun γ L w9 => Below Yf.heap.size Yf w9) Z γ L a w → a.tmps[3]? = some (.pointer (some ⟨cb, 0, none⟩)) := fun γ L a w hH => (hH.rest 3 (by rw [← hD]; exact RV.dst_free (by kernel_rfl))).trans (by rw [← hZ]; rfl)
                    have E7 : ∀ (γ : Nat → Value) (L : Nat → Bool) (a : Act) (w : World), RV.Held D WA R (fun γ L w9 => Below Yf.heap.size Yf w9) Z γ L a w → a.tmps[7]? = some (.bool (true)) := fun γ L a w hH => (hH.rest 7 (by rw [← hD]; exact RV.dst_free (by kernel_rfl))).trans (by rw [← hZ]; rfl)
                    have E8 : ∀ (γ : Nat → Value) (L : Nat → Bool) (a : Act) (w : World), RV.Held D WA R (fun γ L w9 => Below Yf.heap.size Yf w9) Z γ L a w → a.tmps[8]? = some (.slice o4 Ps.length c4) := fun γ L a w hH => (hH.rest 8 (by rw [← hD]; exact RV.dst_free (by kernel_rfl))).trans (by rw [← hZ]; rfl)
                    have E9 : ∀ (γ : Nat → Value) (L : Nat → Bool) (a : Act) (w : World), RV.Held D WA R (fun γ L w9 => Below Yf.heap.size Yf w9) Z γ L a w → a.tmps[9]? = some (.slice o5 As.length c5) := fun γ L a w hH => (hH.rest 9 (by rw [← hD]; exact RV.dst_free (by kernel_rfl))).trans (by rw [← hZ]; rfl)
                    have E10 : ∀ (γ : Nat → Value) (L : Nat → Bool) (a : Act) (w : World), RV.Held D WA R (fun γ L w9 => Below Yf.heap.size Yf w9) Z γ L a w → a.tmps[10]? = some (.slice o6 Es.length c6) := fun γ L a w hH => (hH.rest 10 (by rw [← hD]; exact RV.dst_free (by kernel_rfl))).trans (by rw [← hZ]; rfl)
                    have E12 : ∀ (γ : Nat → Value) (L : Nat → Bool) (a : Act) (w : World), RV.Held D WA R (fun γ L w9 => Below Yf.heap.size Yf w9) Z γ L a w → a.tmps[12]? = some (.bool (ok)) := fun γ L a w hH => (hH.rest 12 (by rw [← hD]; exact RV.dst_free (by kernel_rfl))).trans (by rw [← hZ]; rfl)
                    have E14 : ∀ (γ : Nat → Value) (L : Nat → Bool) (a : Act) (w : World), RV.Held D WA R (fun γ L w9 => Below Yf.heap.size Yf w9) Z γ L a w → a.tmps[14]? = some (.bool (ok)) := fun γ L a w hH => (hH.rest 14 (by rw [← hD]; exact RV.dst_free (by kernel_rfl))).trans (by rw [← hZ]; rfl)
                    have E17 : ∀ (γ : Nat → Value) (L : Nat → Bool) (a : Act) (w : World), RV.Held D WA R (fun γ L w9 => Below Yf.heap.size Yf w9) Z γ L a w → a.tmps[17]? = some (.bool (true)) := fun γ L a w hH => (hH.rest 17 (by rw [← hD]; exact RV.dst_free (by kernel_rfl))).trans (by rw [← hZ]; rfl)
                    have K : ∀ j v w w', R j v w → R j v w' := by rw [hR]; intro j v w w' h; exact h
                    clear hD hWA hZ hR
                    refine RV.AllDo.cons 0 (RV.does_pure (fun γ v L w hl h => h) (fun γ L a w hH hl hA => by have e0 := E7 γ L a w hH; exact ⟨.bool (true), by simp [execOp, go_sem, e0], (r0 _ _).mpr rfl⟩)) ?_
                    refine RV.AllDo.cons 1 (RV.does_pure (fun γ v L w hl h => h) (fun γ L a w hH hl hA => by have l0 : L 0 = true := hA ⟨0, .data⟩ (by simp) rfl; have e0 := hH.slot 0 106 d0 l0; have g0 := hH.holds 0 l0; rw [r0] at g0; rw [g0] at e0; exact ⟨.bool (true), by simp [execOp, go_sem, e0], (r1 _ _).mpr rfl⟩)) ?_
                    refine RV.AllDo.cons 2 (RV.does_guarded rfl d1 (fun v w h => by rw [r1] at h; exact h) (by simp) (RV.does_pure (fun γ v L w hl h => h) (fun γ L a w hH hl hA => by have e0 := E17 γ L a w hH; exact ⟨.bool (true), by simp [execOp, go_sem, e0], (r2 _ _).mpr rfl⟩))) ?_
                    refine RV.AllDo.cons 3 (RV.does_pure (fun γ v L w hl h => h) (fun γ L a w hH hl hA => by have l0 : L 1 = true := hA ⟨1, .data⟩ (by simp) rfl; have e0 := hH.slot 1 107 d1 l0; have g0 := hH.holds 1 l0; rw [r1] at g0; rw [g0] at e0; have l1 : L 2 = true := hA ⟨2, .data⟩ (by simp) rfl; have e1 := hH.slot 2 108 d2 l1; have g1 := hH.holds 2 l1; rw [r2] at g1; rw [g1] at e1; exact ⟨.bool (true), by simp [execOp, go_sem, e0, e1], (r3 _ _).mpr rfl⟩)) ?_
                    refine RV.AllDo.cons 4 (RV.does_pure (fun γ v L w hl h => h) (fun γ L a w hH hl hA => by have l0 : L 3 = true := hA ⟨3, .data⟩ (by simp) rfl; have e0 := hH.slot 3 109 d3 l0; have g0 := hH.holds 3 l0; rw [r3] at g0; rw [g0] at e0; exact ⟨.bool (true), by simp [execOp, go_sem, e0], (r4 _ _).mpr rfl⟩)) ?_
                    refine RV.AllDo.cons 5 (RV.does_guarded rfl d4 (fun v w h => by rw [r4] at h; exact h) (by simp) (RV.does_pure (fun γ v L w hl h => h) (fun γ L a w hH hl hA => by have e0 := E12 γ L a w hH; exact ⟨.bool (ok), by simp [execOp, go_sem, e0], (r5 _ _).mpr rfl⟩))) ?_
                    refine RV.AllDo.cons 6 (RV.does_guarded rfl d4 (fun v w h => by rw [r4] at h; exact h) (by simp) (RV.does_pure (fun γ v L w hl h => h) (fun γ L a w hH hl hA => by have e0 := E14 γ L a w hH; exact ⟨.bool (ok), by simp [execOp, go_sem, e0], (r6 _ _).mpr rfl⟩))) ?_
                    refine RV.AllDo.cons 7 (RV.does_guarded rfl d4 (fun v w h => by rw [r4] at h; exact h) (by simp) (RV.does_pure (fun γ v L w hl h => h) (fun γ L a w hH hl hA => by have l0 : L 5 = true := hA ⟨5, .data⟩ (by simp) rfl; have e0 := hH.slot 5 111 d5 l0; have g0 := hH.holds 5 l0; rw [r5] at g0; rw [g0] at e0; have l1 : L 6 = true := hA ⟨6, .data⟩ (by simp) rfl; have e1 := hH.slot 6 112 d6 l1; have g1 := hH.holds 6 l1; rw [r6] at g1; rw [g1] at e1; exact ⟨.bool (true), by simp [execOp, go_sem, e0, e1], (r7 _ _).mpr rfl⟩))) ?_
                    refine RV.AllDo.cons 8 (RV.does_pure (fun γ v L w hl h => h) (fun γ L a w hH hl hA => by have l0 : L 4 = true := hA ⟨4, .data⟩ (by simp) rfl; have e0 := hH.slot 4 110 d4 l0; have g0 := hH.holds 4 l0; rw [r4] at g0; rw [g0] at e0; have l1 : L 7 = true := hA ⟨7, .data⟩ (by simp) rfl; have e1 := hH.slot 7 113 d7 l1; have g1 := hH.holds 7 l1; rw [r7] at g1; rw [g1] at e1; exact ⟨.bool (true), by simp [execOp, go_sem, e0, e1], (r8 _ _).mpr rfl⟩)) ?_
                    refine RV.AllDo.cons 9 (RV.does_pure (fun γ v L w hl h => h) (fun γ L a w hH hl hA => by have l0 : L 8 = true := hA ⟨8, .data⟩ (by simp) rfl; have e0 := hH.slot 8 114 d8 l0; have g0 := hH.holds 8 l0; rw [r8] at g0; rw [g0] at e0; exact ⟨.bool (true), by simp [execOp, go_sem, e0], (r9 _ _).mpr rfl⟩)) ?_
                    refine RV.AllDo.cons 10 (RV.does_guarded rfl d9 (fun v w h => by rw [r9] at h; exact h) (by simp) (RV.does_pure (fun γ v L w hl h => h) (fun γ L a w hH hl hA => by have e0 := E8 γ L a w hH; exact ⟨.slice o4 Ps.length c4, by simp [execOp, go_sem, e0], (r10 _ _).mpr rfl⟩))) ?_
                    refine RV.AllDo.cons 11 (RV.does_guarded rfl d9 (fun v w h => by rw [r9] at h; exact h) (by simp) (RV.does_pure (fun γ v L w hl h => h) (fun γ L a w hH hl hA => by have e0 := E3 γ L a w hH; exact ⟨.pointer (some ⟨cb, 0, none⟩), by simp [execOp, go_sem, e0], (r11 _ _).mpr rfl⟩))) ?_
                    refine RV.AllDo.cons 12 (RV.does_guarded rfl d9 (fun v w h => by rw [r9] at h; exact h) (by simp) (RV.does_pure (fun γ v L w hl h => h) (fun γ L a w hH hl hA => by have l0 : L 11 = true := hA ⟨11, .data⟩ (by simp) rfl; have e0 := hH.slot 11 117 d11 l0; have g0 := hH.holds 11 l0; rw [r11] at g0; rw [g0] at e0; have hB9 := hH.glob; have z0 := c_after hB9 cc0_; exact ⟨.slice opv Ps.length cpv, by simp [execOp, go_sem, e0, z0], (r12 _ _).mpr rfl⟩))) ?_
                    refine RV.AllDo.cons 13 (RV.does_guarded rfl d9 (fun v w h => by rw [r9] at h; exact h) (by simp) (RV.does_call (fun γ L a w hH hl hA => by have l0 : L 10 = true := hA ⟨10, .data⟩ (by simp) rfl; have e0 := hH.slot 10 116 d10 l0; have g0 := hH.holds 10 l0; rw [r10] at g0; rw [g0] at e0; have l1 : L 12 = true := hA ⟨12, .data⟩ (by simp) rfl; have e1 := hH.slot 12 118 d12 l1; have g1 := hH.holds 12 l1; rw [r12] at g1; rw [g1] at e1; have hB9 := hH.glob; exact ⟨11, #[.slice o4 Ps.length c4, .slice opv Ps.length cpv], by simp [go_sem, e0, e1], Calls.mono (points_same6 _ _ Ps w (Lies.below EU.out hB9) (Lies.below EP.out hB9)) (by rintro e w2 ⟨rfl, hb⟩; exact ⟨_, rfl, (r13 _ _).mpr rfl, fun j v _ h => K j v _ _ h, hB9.trans (hb.mono hB9.size)⟩)⟩))) ?_
                    refine RV.AllDo.cons 14 (RV.does_pure (fun γ v L w hl h => h) (fun γ L a w hH hl hA => by have l0 : L 9 = true := hA ⟨9, .data⟩ (by simp) rfl; have e0 := hH.slot 9 115 d9 l0; have g0 := hH.holds 9 l0; rw [r9] at g0; rw [g0] at e0; have l1 : L 13 = true := hA ⟨13, .data⟩ (by simp) rfl; have e1 := hH.slot 13 119 d13 l1; have g1 := hH.holds 13 l1; rw [r13] at g1; rw [g1] at e1; exact ⟨.bool (true), by simp [execOp, go_sem, e0, e1], (r14 _ _).mpr rfl⟩)) ?_
                    refine RV.AllDo.cons 15 (RV.does_pure (fun γ v L w hl h => h) (fun γ L a w hH hl hA => by have l0 : L 14 = true := hA ⟨14, .data⟩ (by simp) rfl; have e0 := hH.slot 14 120 d14 l0; have g0 := hH.holds 14 l0; rw [r14] at g0; rw [g0] at e0; exact ⟨.bool (true), by simp [execOp, go_sem, e0], (r15 _ _).mpr rfl⟩)) ?_
                    refine RV.AllDo.cons 16 (RV.does_guarded rfl d15 (fun v w h => by rw [r15] at h; exact h) (by simp) (RV.does_pure (fun γ v L w hl h => h) (fun γ L a w hH hl hA => by have e0 := E9 γ L a w hH; exact ⟨.slice o5 As.length c5, by simp [execOp, go_sem, e0], (r16 _ _).mpr rfl⟩))) ?_
                    refine RV.AllDo.cons 17 (RV.does_guarded rfl d15 (fun v w h => by rw [r15] at h; exact h) (by simp) (RV.does_pure (fun γ v L w hl h => h) (fun γ L a w hH hl hA => by have e0 := E3 γ L a w hH; exact ⟨.pointer (some ⟨cb, 1, none⟩), by simp [execOp, go_sem, e0], (r17 _ _).mpr rfl⟩))) ?_
                    refine RV.AllDo.cons 18 (RV.does_guarded rfl d15 (fun v w h => by rw [r15] at h; exact h) (by simp) (RV.does_pure (fun γ v L w hl h => h) (fun γ L a w hH hl hA => by have l0 : L 17 = true := hA ⟨17, .data⟩ (by simp) rfl; have e0 := hH.slot 17 123 d17 l0; have g0 := hH.holds 17 l0; rw [r17] at g0; rw [g0] at e0; have hB9 := hH.glob; have z0 := c_after hB9 cc1_; exact ⟨.slice oav As.length cav, by simp [execOp, go_sem, e0, z0], (r18 _ _).mpr rfl⟩))) ?_
                    refine RV.AllDo.cons 19 (RV.does_guarded rfl d15 (fun v w h => by rw [r15] at h; exact h) (by simp) (RV.does_call (fun γ L a w hH hl hA => by have l0 : L 16 = true := hA ⟨16, .data⟩ (by simp) rfl; have e0 := hH.slot 16 122 d16 l0; have g0 := hH.holds 16 l0; rw [r16] at g0; rw [g0] at e0; have l1 : L 18 = true := hA ⟨18, .data⟩ (by simp) rfl; have e1 := hH.slot 18 124 d18 l1; have g1 := hH.holds 18 l1; rw [r18] at g1; rw [g1] at e1; have hB9 := hH.glob; exact ⟨11, #[.slice o5 As.length c5, .slice oav As.length cav], by simp [go_sem, e0, e1], Calls.mono (points_same6 _ _ As w (Lies.below EV.out hB9) (Lies.below EA.out hB9)) (by rintro e w2 ⟨rfl, hb⟩; exact ⟨_, rfl, (r19 _ _).mpr rfl, fun j v _ h => K j v _ _ h, hB9.trans (hb.mono hB9.size)⟩)⟩))) ?_
                    refine RV.AllDo.cons 20 (RV.does_pure (fun γ v L w hl h => h) (fun γ L a w hH hl hA => by have l0 : L 15 = true := hA ⟨15, .data⟩ (by simp) rfl; have e0 := hH.slot 15 121 d15 l0; have g0 := hH.holds 15 l0; rw [r15] at g0; rw [g0] at e0; have l1 : L 19 = true := hA ⟨19, .data⟩ (by simp) rfl; have e1 := hH.slot 19 125 d19 l1; have g1 := hH.holds 19 l1; rw [r19] at g1; rw [g1] at e1; exact ⟨.bool (true), by simp [execOp, go_sem, e0, e1], (r20 _ _).mpr rfl⟩)) ?_
                    refine RV.AllDo.cons 21 (RV.does_pure (fun γ v L w hl h => h) (fun γ L a w hH hl hA => by have l0 : L 20 = true := hA ⟨20, .data⟩ (by simp) rfl; have e0 := hH.slot 20 126 d20 l0; have g0 := hH.holds 20 l0; rw [r20] at g0; rw [g0] at e0; exact ⟨.bool (true), by simp [execOp, go_sem, e0], (r21 _ _).mpr rfl⟩)) ?_
                    refine RV.AllDo.cons 22 (RV.does_guarded rfl d21 (fun v w h => by rw [r21] at h; exact h) (by simp) (RV.does_pure (fun γ v L w hl h => h) (fun γ L a w hH hl hA => by have e0 := E10 γ L a w hH; exact ⟨.slice o6 Es.length c6, by simp [execOp, go_sem, e0], (r22 _ _).mpr rfl⟩))) ?_
                    refine RV.AllDo.cons 23 (RV.does_guarded rfl d21 (fun v w h => by rw [r21] at h; exact h) (by simp) (RV.does_pure (fun γ v L w hl h => h) (fun γ L a w hH hl hA => by have e0 := E3 γ L a w hH; exact ⟨.pointer (some ⟨cb, 2, none⟩), by simp [execOp, go_sem, e0], (r23 _ _).mpr rfl⟩))) ?_
                    refine RV.AllDo.cons 24 (RV.does_guarded rfl d21 (fun v w h => by rw [r21] at h; exact h) (by simp) (RV.does_pure (fun γ v L w hl h => h) (fun γ L a w hH hl hA => by have l0 : L 23 = true := hA ⟨23, .data⟩ (by simp) rfl; have e0 := hH.slot 23 129 d23 l0; have g0 := hH.holds 23 l0; rw [r23] at g0; rw [g0] at e0; have hB9 := hH.glob; have z0 := c_after hB9 cc2_; exact ⟨.slice oev Es.length cev, by simp [execOp, go_sem, e0, z0], (r24 _ _).mpr rfl⟩))) ?_
                    refine RV.AllDo.cons 25 (RV.does_guarded rfl d21 (fun v w h => by rw [r21] at h; exact h) (by simp) (RV.does_call (fun γ L a w hH hl hA => by have l0 : L 22 = true := hA ⟨22, .data⟩ (by simp) rfl; have e0 := hH.slot 22 128 d22 l0; have g0 := hH.holds 22 l0; rw [r22] at g0; rw [g0] at e0; have l1 : L 24 = true := hA ⟨24, .data⟩ (by simp) rfl; have e1 := hH.slot 24 130 d24 l1; have g1 := hH.holds 24 l1; rw [r24] at g1; rw [g1] at e1; have hB9 := hH.glob; exact ⟨11, #[.slice o6 Es.length c6, .slice oev Es.length cev], by simp [go_sem, e0, e1], Calls.mono (points_same6 _ _ Es w (Lies.below EW.out hB9) (Lies.below EE.out hB9)) (by rintro e w2 ⟨rfl, hb⟩; exact ⟨_, rfl, (r25 _ _).mpr rfl, fun j v _ h => K j v _ _ h, hB9.trans (hb.mono hB9.size)⟩)⟩))) ?_
                    refine RV.AllDo.cons 26 (RV.does_pure (fun γ v L w hl h => h) (fun γ L a w hH hl hA => by have l0 : L 21 = true := hA ⟨21, .data⟩ (by simp) rfl; have e0 := hH.slot 21 127 d21 l0; have g0 := hH.holds 21 l0; rw [r21] at g0; rw [g0] at e0; have l1 : L 25 = true := hA ⟨25, .data⟩ (by simp) rfl; have e1 := hH.slot 25 131 d25 l1; have g1 := hH.holds 25 l1; rw [r25] at g1; rw [g1] at e1; exact ⟨.bool (true), by simp [execOp, go_sem, e0, e1], (r26 _ _).mpr rfl⟩)) ?_
                    refine RV.AllDo.cons 27 (RV.does_pure (fun γ v L w hl h => h) (fun γ L a w hH hl hA => by have l0 : L 26 = true := hA ⟨26, .data⟩ (by simp) rfl; have e0 := hH.slot 26 132 d26 l0; have g0 := hH.holds 26 l0; rw [r26] at g0; rw [g0] at e0; exact ⟨.bool (true), by simp [execOp, go_sem, e0], (r27 _ _).mpr rfl⟩)) ?_
                    refine RV.AllDo.cons 28 (RV.does_guarded rfl d27 (fun v w h => by rw [r27] at h; exact h) (by simp) (RV.does_pure (fun γ v L w hl h => h) (fun γ L a w hH hl hA => by have e0 := E3 γ L a w hH; have hB9 := hH.glob; have z0 := c_after hB9 cc0_; have z1 := c_after hB9 cc1_; have z2 := c_after hB9 cc2_; have z3 := c_after hB9 cc3_; exact ⟨.agg #[.slice opv Ps.length cpv, .slice oav As.length cav, .slice oev Es.length cev, .int .i64 r], by simp [execOp, go_sem, e0, z0, z1, z2, z3], (r28 _ _).mpr rfl⟩))) ?_
                    refine RV.AllDo.cons 29 (RV.does_guarded rfl d27 (fun v w h => by rw [r27] at h; exact h) (by simp) (RV.does_call (fun γ L a w hH hl hA => by have l0 : L 28 = true := hA ⟨28, .data⟩ (by simp) rfl; have e0 := hH.slot 28 134 d28 l0; have g0 := hH.holds 28 l0; rw [r28] at g0; rw [g0] at e0; have hB9 := hH.glob; exact ⟨12, #[.agg #[.slice opv Ps.length cpv, .slice oav As.length cav, .slice oev Es.length cev, .int .i64 r]], by simp [go_sem, e0], Calls.mono (HSP0.out w (Lies.below EP.out hB9) (Lies.below EA.out hB9) (Lies.below EE.out hB9)) (by rintro e w2 ⟨rfl, hb⟩; exact ⟨_, rfl, (r29 _ _).mpr rfl, fun j v _ h => K j v _ _ h, hB9.trans (hb.mono hB9.size)⟩)⟩))) ?_
                    refine RV.AllDo.cons 30 (RV.does_guarded rfl d27 (fun v w h => by rw [r27] at h; exact h) (by simp) (RV.does_pure (fun γ v L w hl h => h) (fun γ L a w hH hl hA => by have e0 := E3 γ L a w hH; have hB9 := hH.glob; have z0 := c_after hB9 cc0_; have z1 := c_after hB9 cc1_; have z2 := c_after hB9 cc2_; have z3 := c_after hB9 cc3_; exact ⟨.agg #[.slice opv Ps.length cpv, .slice oav As.length cav, .slice oev Es.length cev, .int .i64 r], by simp [execOp, go_sem, e0, z0, z1, z2, z3], (r30 _ _).mpr rfl⟩))) ?_
                    refine RV.AllDo.cons 31 (RV.does_guarded rfl d27 (fun v w h => by rw [r27] at h; exact h) (by simp) (RV.does_call (fun γ L a w hH hl hA => by have l0 : L 30 = true := hA ⟨30, .data⟩ (by simp) rfl; have e0 := hH.slot 30 136 d30 l0; have g0 := hH.holds 30 l0; rw [r30] at g0; rw [g0] at e0; have hB9 := hH.glob; exact ⟨13, #[.agg #[.slice opv Ps.length cpv, .slice oav As.length cav, .slice oev Es.length cev, .int .i64 r]], by simp [go_sem, e0], Calls.mono (HSR0.out w (Lies.below EP.out hB9) (Lies.below EA.out hB9) (Lies.below EE.out hB9)) (by rintro e w2 ⟨rfl, hb⟩; exact ⟨_, rfl, (r31 _ _).mpr rfl, fun j v _ h => K j v _ _ h, hB9.trans (hb.mono hB9.size)⟩)⟩))) ?_
                    refine RV.AllDo.cons 32 (RV.does_guarded rfl d27 (fun v w h => by rw [r27] at h; exact h) (by simp) (RV.does_pure (fun γ v L w hl h => h) (fun γ L a w hH hl hA => by have l0 : L 29 = true := hA ⟨29, .data⟩ (by simp) rfl; have e0 := hH.slot 29 135 d29 l0; have g0 := hH.holds 29 l0; rw [r29] at g0; rw [g0] at e0; have l1 : L 31 = true := hA ⟨31, .data⟩ (by simp) rfl; have e1 := hH.slot 31 137 d31 l1; have g1 := hH.holds 31 l1; rw [r31] at g1; rw [g1] at e1; exact ⟨.bool (true), by simp [execOp, go_sem, e0, e1], (r32 _ _).mpr rfl⟩))) ?_
                    refine RV.AllDo.cons 33 (RV.does_pure (fun γ v L w hl h => h) (fun γ L a w hH hl hA => by have l0 : L 27 = true := hA ⟨27, .data⟩ (by simp) rfl; have e0 := hH.slot 27 133 d27 l0; have g0 := hH.holds 27 l0; rw [r27] at g0; rw [g0] at e0; have l1 : L 32 = true := hA ⟨32, .data⟩ (by simp) rfl; have e1 := hH.slot 32 138 d32 l1; have g1 := hH.holds 32 l1; rw [r32] at g1; rw [g1] at e1; exact ⟨.bool (true), by simp [execOp, go_sem, e0, e1], (r33 _ _).mpr rfl⟩)) ?_
                    refine RV.AllDo.cons 34 (RV.does_pure (fun γ v L w hl h => h) (fun γ L a w hH hl hA => by have l0 : L 33 = true := hA ⟨33, .data⟩ (by simp) rfl; have e0 := hH.slot 33 139 d33 l0; have g0 := hH.holds 33 l0; rw [r33] at g0; rw [g0] at e0; exact ⟨.bool (true), by simp [execOp, go_sem, e0], (r34 _ _).mpr rfl⟩)) ?_
                    exact RV.AllDo.nil
                  · intro γ a5 w5 L9 hL hLo hH
                    have ha := RV.held_act hH hL (by kernel_rfl) (by kernel_rfl)
                    have hb8 := hH.glob
                    have y0 : γ 0 = .bool (true) := hH.holds 0 (hL 0 (by decide))
                    have y1 : γ 1 = .bool (true) := hH.holds 1 (hL 1 (by decide))
                    have y2 : γ 2 = .bool (true) := hH.holds 2 (hL 2 (by decide))
                    have y3 : γ 3 = .bool (true) := hH.holds 3 (hL 3 (by decide))
                    have y4 : γ 4 = .bool (true) := hH.holds 4 (hL 4 (by decide))
                    have y5 : γ 5 = .bool (ok) := hH.holds 5 (hL 5 (by decide))
                    have y6 : γ 6 = .bool (ok) := hH.holds 6 (hL 6 (by decide))
                    have y7 : γ 7 = .bool (true) := hH.holds 7 (hL 7 (by decide))
                    have y8 : γ 8 = .bool (true) := hH.holds 8 (hL 8 (by decide))
                    have y9 : γ 9 = .bool (true) := hH.holds 9 (hL 9 (by decide))
                    have y10 : γ 10 = .slice o4 Ps.length c4 := hH.holds 10 (hL 10 (by decide))
                    have y11 : γ 11 = .pointer (some ⟨cb, 0, none⟩) := hH.holds 11 (hL 11 (by decide))
                    have y12 : γ 12 = .slice opv Ps.length cpv := hH.holds 12 (hL 12 (by decide))
                    have y13 : γ 13 = .bool (true) := hH.holds 13 (hL 13 (by decide))
                    have y14 : γ 14 = .bool (true) := hH.holds 14 (hL 14 (by decide))
                    have y15 : γ 15 = .bool (true) := hH.holds 15 (hL 15 (by decide))
                    have y16 : γ 16 = .slice o5 As.length c5 := hH.holds 16 (hL 16 (by decide))
                    have y17 : γ 17 = .pointer (some ⟨cb, 1, none⟩) := hH.holds 17 (hL 17 (by decide))
                    have y18 : γ 18 = .slice oav As.length cav := hH.holds 18 (hL 18 (by decide))
                    have y19 : γ 19 = .bool (true) := hH.holds 19 (hL 19 (by decide))
                    have y20 : γ 20 = .bool (true) := hH.holds 20 (hL 20 (by decide))
                    have y21 : γ 21 = .bool (true) := hH.holds 21 (hL 21 (by decide))
                    have y22 : γ 22 = .slice o6 Es.length c6 := hH.holds 22 (hL 22 (by decide))
                    have y23 : γ 23 = .pointer (some ⟨cb, 2, none⟩) := hH.holds 23 (hL 23 (by decide))
                    have y24 : γ 24 = .slice oev Es.length cev := hH.holds 24 (hL 24 (by decide))
                    have y25 : γ 25 = .bool (true) := hH.holds 25 (hL 25 (by decide))
                    have y26 : γ 26 = .bool (true) := hH.holds 26 (hL 26 (by decide))
                    have y27 : γ 27 = .bool (true) := hH.holds 27 (hL 27 (by decide))
                    have y28 : γ 28 = .agg #[.slice opv Ps.length cpv, .slice oav As.length cav, .slice oev Es.length cev, .int .i64 r] := hH.holds 28 (hL 28 (by decide))
                    have y29 : γ 29 = .agg #[.int .i64 s0_, .int .i64 s1_, .int .i64 s2_, .int .i64 s3_, .int .i64 s4_, .int .i64 s5_] := hH.holds 29 (hL 29 (by decide))
                    have y30 : γ 30 = .agg #[.slice opv Ps.length cpv, .slice oav As.length cav, .slice oev Es.length cev, .int .i64 r] := hH.holds 30 (hL 30 (by decide))
                    have y31 : γ 31 = .agg #[.int .i64 s0_, .int .i64 s1_, .int .i64 s2_, .int .i64 s3_, .int .i64 s4_, .int .i64 s5_] := hH.holds 31 (hL 31 (by decide))
                    have y32 : γ 32 = .bool (true) := hH.holds 32 (hL 32 (by decide))
                    have y33 : γ 33 = .bool (true) := hH.holds 33 (hL 33 (by decide))
                    have y34 : γ 34 = .bool (true) := hH.holds 34 (hL 34 (by decide))
                    rw [ha]
                    clear ha hH hL hLo
                    simp only [RV.putAll, Act.put, List.setIfInBounds_toArray, List.set_cons_zero, List.set_cons_succ, Nat.zero_add, Nat.reduceAdd, y0, y1, y2, y3, y4, y5, y6, y7, y8, y9, y10, y11, y12, y13, y14, y15, y16, y17, y18, y19, y20, y21, y22, y23, y24, y25, y26, y27, y28, y29, y30, y31, y32, y33, y34]
                    clear y0 y1 y2 y3 y4 y5 y6 y7 y8 y9 y10 y11 y12 y13 y14 y15 y16 y17 y18 y19 y20 y21 y22 y23 y24 y25 y26 y27 y28 y29 y30 y31 y32 y33 y34
                    have HE : Hid _ := b_step EX.out hb8
                    go_wp2_with (fail)
                    go_ret
                    exact ⟨rfl, HE.out⟩
end Go.Proofs.YtompnibhfdkkjaaGreat
