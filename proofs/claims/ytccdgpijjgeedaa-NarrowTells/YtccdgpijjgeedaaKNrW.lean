/- NarrowTells as a contract: any two cores, any direction. -/
import Derived.Test.YtccdgpijjgeedaaKNrV
namespace Go.Proofs.Ytccdgpijjgeedaa
open Go.RowKit Go.Shelf
set_option linter.unusedVariables false

theorem apartV_form (a b : Cr) : ∃ x y z g : Int, apartV a b = .agg #[.int .i64 x, .int .i64 y, .int .i64 z, .int .i64 g] := by
  unfold apartV
  split
  · exact ⟨_, _, _, _, rfl⟩
  · exact ⟨_, _, _, _, rfl⟩
theorem reachV_form (P : List Pt) (n : Pt) : ∃ lo hi : Int, reachV P n = .tuple #[.int .i64 lo, .int .i64 hi] := by
  unfold reachV
  cases reachOk P n
  · exact ⟨_, _, rfl⟩
  · exact ⟨_, _, rfl⟩
set_option maxHeartbeats 8000000 in
set_option maxRecDepth 100000 in
theorem ntells_any (P A E Q B Fl : List Pt) (r s : Int) (n : Pt) (va1 va2 va3 vb1 vb2 vb3 : Value) (w0 : World)
    (hP : Lies w0 va1 P) (hA : Lies w0 va2 A) (hE : Lies w0 va3 E) (hQ : Lies w0 vb1 Q) (hB : Lies w0 vb2 B) (hF : Lies w0 vb3 Fl)
    (lP : P.length < 140737488355328) (lA : A.length < 140737488355328) (lQ : Q.length < 140737488355328) (lB : B.length < 140737488355328) :
    Calls Try.prog 3 #[coreA va1 va2 va3 r, coreA vb1 vb2 vb3 s, n.v] w0 fun e W => e = .returned (.bool true) ∧ Below w0.heap.size w0 W := by
  have AW : Hid _ := fun W => awake9_any W
  have H1 : Hid _ := fun (w' : World) (h : Below w0.heap.size w0 w') => napart_any P A E Q B Fl r s va1 va2 va3 vb1 vb2 vb3 w' (hP.below h) (hA.below h) (hE.below h) (hQ.below h) (hB.below h) (hF.below h)
  have H2 : Hid _ := fun (w' : World) (h : Below w0.heap.size w0 w') => rapart9_any P A E Q B Fl r s va1 va2 va3 vb1 vb2 vb3 w' (hP.below h) (hA.below h) (hE.below h) (hQ.below h) (hB.below h) (hF.below h)
  have H3 : Hid _ := fun (w' : World) => nsizes_any n w'
  have H4 : Hid _ := fun (w' : World) => rsizes9_any n w'
  have H5 : Hid _ := fun (w' : World) (h : Below w0.heap.size w0 w') => nreach_any ⟨P, A, E, r⟩ n va1 va2 va3 w' (hP.below h) (hA.below h) (hE.below h)
  have H6 : Hid _ := fun (w' : World) (h : Below w0.heap.size w0 w') => rreach9_any ⟨P, A, E, r⟩ n va1 va2 va3 w' (hP.below h) (hA.below h) (hE.below h)
  obtain ⟨tx, ty, tz, tg, e1⟩ := apartV_form ⟨P, A, E, r⟩ ⟨Q, B, Fl, s⟩
  obtain ⟨lo, hi, e2⟩ := reachV_form P n
  dsimp only at H5 H6
  rw [e1] at H1 H2
  rw [e2] at H5 H6
  generalize (mayC ⟨P, A, E, r⟩ && mayC ⟨Q, B, Fl, s⟩) = mm at *
  generalize dnT n = dd at *
  generalize upT n = uu at *
  clear e1 e2
  obtain ⟨o1, k1, rfl, _⟩ := hP.form
  obtain ⟨o2, k2, rfl, _⟩ := hA.form
  obtain ⟨o3, k3, rfl, _⟩ := hE.form
  obtain ⟨o4, k4, rfl, _⟩ := hQ.form
  obtain ⟨o5, k5, rfl, _⟩ := hB.form
  obtain ⟨o6, k6, rfl, _⟩ := hF.form
  clear hP hA hE hQ hB hF
  unfold coreA Pt.v at *
  try dsimp only at *
  obtain ⟨W1, hW1⟩ : ∃ V, V = ((w0.alloc (.cells #[.slice o1 P.length k1, .slice o2 A.length k2, .slice o3 E.length k3, .int .i64 r] 24)).alloc (.cells #[.slice o4 Q.length k4, .slice o5 B.length k5, .slice o6 Fl.length k6, .int .i64 s] 24)).alloc (.cells #[.int .i64 n.x, .int .i64 n.y, .int .i64 n.z] 26) := ⟨_, rfl⟩
  have c2 := Cel.two w0 [.slice o1 P.length k1, .slice o2 A.length k2, .slice o3 E.length k3, .int .i64 r] [.slice o4 Q.length k4, .slice o5 B.length k5, .slice o6 Fl.length k6, .int .i64 s] 24 24
  have n3 := Cel.new ((w0.alloc (.cells #[.slice o1 P.length k1, .slice o2 A.length k2, .slice o3 E.length k3, .int .i64 r] 24)).alloc (.cells #[.slice o4 Q.length k4, .slice o5 B.length k5, .slice o6 Fl.length k6, .int .i64 s] 24)) [.int .i64 n.x, .int .i64 n.y, .int .i64 n.z] 26
  rw [World.size_alloc, World.size_alloc] at n3
  have CA : Hid (Cel W1 w0.heap.size [.slice o1 P.length k1, .slice o2 A.length k2, .slice o3 E.length k3, .int .i64 r]) := by show Cel _ _ _; rw [hW1]; exact c2.1.step (n_after _ _)
  have CB : Hid (Cel W1 (w0.heap.size + 1) [.slice o4 Q.length k4, .slice o5 B.length k5, .slice o6 Fl.length k6, .int .i64 s]) := by show Cel _ _ _; rw [hW1]; exact c2.2.step (n_after _ _)
  have CN : Hid (Cel W1 (w0.heap.size + 1 + 1) [.int .i64 n.x, .int .i64 n.y, .int .i64 n.z]) := by show Cel _ _ _; rw [hW1]; exact n3
  have HB : Hid (Below w0.heap.size w0 W1) := by show Below _ _ _; rw [hW1]; exact b_step (b_step (n_after _ _) (n_after _ _)) (n_after _ _)
  clear c2 n3
  obtain ⟨ab, hab⟩ : ∃ b, b = w0.heap.size := ⟨_, rfl⟩
  obtain ⟨bb, hbb⟩ : ∃ b, b = w0.heap.size + 1 := ⟨_, rfl⟩
  obtain ⟨nb, hnb⟩ : ∃ b, b = w0.heap.size + 1 + 1 := ⟨_, rfl⟩
  rw [← hnb] at CN
  rw [← hbb] at CB
  rw [← hab] at CA
  go_enter Try.func3, Try.ntmps3
  go_upto_region 1 with fail
  rw [← hW1, ← hnb, ← hbb, ← hab]
  clear hW1 hab hbb hnb
  go_wp2_with (fail)
  refine Calls.mono (AW.out _) ?_
  rintro e V1 ⟨rfl, hb⟩
  have CA : Hid _ := Cel.step CA.out hb
  have CB : Hid _ := Cel.step CB.out hb
  have CN : Hid _ := Cel.step CN.out hb
  have HB : Hid _ := b_step HB.out hb
  clear hb AW
  have x0 := CA.out 0 _ rfl
  have x1 := CA.out 1 _ rfl
  have x2 := CA.out 2 _ rfl
  have y0 := CB.out 0 _ rfl
  have y1 := CB.out 1 _ rfl
  have y2 := CB.out 2 _ rfl
  obtain ⟨sp, hsp⟩ : ∃ z : Int, (P.length : Int) + (Q.length : Int) = z := ⟨_, rfl⟩
  obtain ⟨sa, hsa⟩ : ∃ z : Int, (A.length : Int) + (B.length : Int) = z := ⟨_, rfl⟩
  have w1 : IntKind.i64.wrap ((P.length : Int) + (Q.length : Int)) = sp := by rw [hsp, IntKind.wrap_i64]; omega
  have w2 : IntKind.i64.wrap ((A.length : Int) + (B.length : Int)) = sa := by rw [hsa, IntKind.wrap_i64]; omega
  clear hsp hsa lP lA lQ lB
  go_upto_region 2 with fail
  go_cut [50] from 21 to 49 (fun s50 wx => (∃ t, s50 = .bool t) ∧ wx = V1)
  case first =>
    clear CA CB CN HB H1 H2 H3 H4 H5 H6
    by_cases c1 : 80 < sp
    · go_wp2_with (fail)
      go_meet
      case rel => exact ⟨⟨_, rfl⟩, rfl⟩
    · by_cases c2 : 150 < sa
      · go_wp2_with (fail)
        go_meet
        case rel => exact ⟨⟨_, rfl⟩, rfl⟩
      · by_cases c3 : 20 < (E.length : Int)
        · go_wp2_with (fail)
          go_meet
          case rel => exact ⟨⟨_, rfl⟩, rfl⟩
        · go_wp2_with (fail)
          go_meet
          case rel => exact ⟨⟨_, rfl⟩, rfl⟩
  case rest =>
    obtain ⟨⟨t, rfl⟩, e9⟩ := hcut
    rw [e9]
    clear e9 w1 w2 x0 x1 x2 y0 y1 y2
    cases t with
    | true =>
      go_wp2_with (fail)
      go_ret
      exact ⟨rfl, HB.out⟩
    | false =>
      have x0 := CA.out 0 _ rfl
      have x1 := CA.out 1 _ rfl
      have x2 := CA.out 2 _ rfl
      have x3 := CA.out 3 _ rfl
      have y0 := CB.out 0 _ rfl
      have y1 := CB.out 1 _ rfl
      have y2 := CB.out 2 _ rfl
      have y3 := CB.out 3 _ rfl
      go_wp2_with (fail)
      refine Calls.mono (H1.out _ HB.out) ?_
      rintro e V2 ⟨rfl, hb⟩
      have CA : Hid _ := Cel.step CA.out hb
      have CB : Hid _ := Cel.step CB.out hb
      have CN : Hid _ := Cel.step CN.out hb
      have HB : Hid _ := b_step HB.out hb
      clear hb x0 x1 x2 x3 y0 y1 y2 y3 H1
      obtain ⟨V3, hV3⟩ : ∃ V, V = V2.alloc (.cells #[.int .i64 tx, .int .i64 ty, .int .i64 tz, .int .i64 tg] 29) := ⟨_, rfl⟩
      obtain ⟨xb, hxb⟩ : ∃ b, b = V2.heap.size := ⟨_, rfl⟩
      have hb3 : Below V2.heap.size V2 V3 := by rw [hV3]; exact n_after _ _
      have CX : Hid (Cel V3 xb [.int .i64 tx, .int .i64 ty, .int .i64 tz, .int .i64 tg]) := by show Cel _ _ _; rw [hV3, hxb]; exact Cel.new _ _ _
      go_upto_region 5 with fail
      rw [← hV3, ← hxb]
      have CA : Hid _ := Cel.step CA.out hb3
      have CB : Hid _ := Cel.step CB.out hb3
      have CN : Hid _ := Cel.step CN.out hb3
      have HB : Hid _ := b_step HB.out hb3
      clear hV3 hxb hb3
      have x0 := CA.out 0 _ rfl
      have x1 := CA.out 1 _ rfl
      have x2 := CA.out 2 _ rfl
      have x3 := CA.out 3 _ rfl
      have y0 := CB.out 0 _ rfl
      have y1 := CB.out 1 _ rfl
      have y2 := CB.out 2 _ rfl
      have y3 := CB.out 3 _ rfl
      go_wp2_with (fail)
      refine Calls.mono (H2.out _ HB.out) ?_
      rintro e V4 ⟨rfl, hb⟩
      have CA : Hid _ := Cel.step CA.out hb
      have CN : Hid _ := Cel.step CN.out hb
      have CX : Hid _ := Cel.step CX.out hb
      have HB : Hid _ := b_step HB.out hb
      clear hb x0 x1 x2 x3 y0 y1 y2 y3 H2 CB
      obtain ⟨V5, hV5⟩ : ∃ V, V = V4.alloc (.cells #[.int .i64 tx, .int .i64 ty, .int .i64 tz, .int .i64 tg] 29) := ⟨_, rfl⟩
      obtain ⟨yb, hyb⟩ : ∃ b, b = V4.heap.size := ⟨_, rfl⟩
      have hb3 : Below V4.heap.size V4 V5 := by rw [hV5]; exact n_after _ _
      have CY : Hid (Cel V5 yb [.int .i64 tx, .int .i64 ty, .int .i64 tz, .int .i64 tg]) := by show Cel _ _ _; rw [hV5, hyb]; exact Cel.new _ _ _
      go_upto_region 6 with fail
      rw [← hV5, ← hyb]
      have CA : Hid _ := Cel.step CA.out hb3
      have CN : Hid _ := Cel.step CN.out hb3
      have CX : Hid _ := Cel.step CX.out hb3
      have HB : Hid _ := b_step HB.out hb3
      clear hV5 hyb hb3
      have u0 := CN.out 0 _ rfl
      have u1 := CN.out 1 _ rfl
      have u2 := CN.out 2 _ rfl
      go_wp2_with (fail)
      refine Calls.mono (H3.out _) ?_
      rintro e Y0 ⟨rfl, hb⟩
      have CA : Hid _ := Cel.step CA.out hb
      have CN : Hid _ := Cel.step CN.out hb
      have CX : Hid _ := Cel.step CX.out hb
      have CY : Hid _ := Cel.step CY.out hb
      have HB : Hid _ := b_step HB.out hb
      clear hb u0 u1 u2  H3
      have u0 := CN.out 0 _ rfl
      have u1 := CN.out 1 _ rfl
      have u2 := CN.out 2 _ rfl
      go_wp2_with (fail)
      refine Calls.mono (H4.out _) ?_
      rintro e Y1 ⟨rfl, hb⟩
      have CA : Hid _ := Cel.step CA.out hb
      have CN : Hid _ := Cel.step CN.out hb
      have CX : Hid _ := Cel.step CX.out hb
      have CY : Hid _ := Cel.step CY.out hb
      have HB : Hid _ := b_step HB.out hb
      clear hb u0 u1 u2  H4
      have u0 := CN.out 0 _ rfl
      have u1 := CN.out 1 _ rfl
      have u2 := CN.out 2 _ rfl
      have x0 := CA.out 0 _ rfl
      have x1 := CA.out 1 _ rfl
      have x2 := CA.out 2 _ rfl
      have x3 := CA.out 3 _ rfl
      go_wp2_with (fail)
      refine Calls.mono (H5.out _ HB.out) ?_
      rintro e Y2 ⟨rfl, hb⟩
      have CA : Hid _ := Cel.step CA.out hb
      have CN : Hid _ := Cel.step CN.out hb
      have CX : Hid _ := Cel.step CX.out hb
      have CY : Hid _ := Cel.step CY.out hb
      have HB : Hid _ := b_step HB.out hb
      clear hb u0 u1 u2 x0 x1 x2 x3 H5
      have u0 := CN.out 0 _ rfl
      have u1 := CN.out 1 _ rfl
      have u2 := CN.out 2 _ rfl
      have x0 := CA.out 0 _ rfl
      have x1 := CA.out 1 _ rfl
      have x2 := CA.out 2 _ rfl
      have x3 := CA.out 3 _ rfl
      go_wp2_with (fail)
      refine Calls.mono (H6.out _ HB.out) ?_
      rintro e Y3 ⟨rfl, hb⟩
      have CA : Hid _ := Cel.step CA.out hb
      have CN : Hid _ := Cel.step CN.out hb
      have CX : Hid _ := Cel.step CX.out hb
      have CY : Hid _ := Cel.step CY.out hb
      have HB : Hid _ := b_step HB.out hb
      clear hb u0 u1 u2 x0 x1 x2 x3 H6
      have x0 := CX.out 0 _ rfl
      have x1 := CX.out 1 _ rfl
      have x2 := CX.out 2 _ rfl
      have x3 := CX.out 3 _ rfl
      have y0 := CY.out 0 _ rfl
      have y1 := CY.out 1 _ rfl
      have y2 := CY.out 2 _ rfl
      have y3 := CY.out 3 _ rfl
      go_wp2_with (fail)
      go_ret
      exact ⟨rfl, HB.out⟩
end Go.Proofs.Ytccdgpijjgeedaa
