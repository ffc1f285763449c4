/- The document's own Reach of layer 9. -/
import Derived.Test.YtccdgpijjgeedaaKNrR
namespace Go.Proofs.Ytccdgpijjgeedaa
open Go.RowKit Go.Shelf
set_option linter.unusedVariables false

theorem loK_prev (n : Pt) (P : List Pt) (i : Nat) : min (loK n P (i - 1)) (n.dot (pt P i)) = loK n P i := by
  cases i with
  | zero => exact Int.min_self _
  | succ k => rfl
theorem hiK_prev (n : Pt) (P : List Pt) (i : Nat) : max (hiK n P (i - 1)) (n.dot (pt P i)) = hiK n P i := by
  cases i with
  | zero => exact Int.max_self _
  | succ k => rfl
set_option maxHeartbeats 4000000 in
set_option maxRecDepth 100000 in
theorem rreach9_any (c : Cr) (n : Pt) (pv av ev : Value) (w0 : World) (hp : Lies w0 pv c.P) (ha : Lies w0 av c.A) (he : Lies w0 ev c.E) :
    Calls Try.prog 15 #[coreA pv av ev c.r, n.v] w0 fun e W => e = .returned (reachV c.P n) ∧ Below w0.heap.size w0 W := by
  obtain ⟨P, A, E, r⟩ := c
  dsimp only at *
  have H2 : Hid _ := fun (w' : World) (h : Below w0.heap.size w0 w') => rall9_any P 67108864 _ w' (hp.below h) (by decide) (by decide)
  have H1 : Hid _ := fun w' => rin9_any n 67108864 w' (by decide)
  obtain ⟨o, cap, rfl, hlc, hcm, hcell⟩ := hp.form
  have HC : Hid _ := hcell
  obtain ⟨o2, cap2, rfl, _, _, _⟩ := ha.form
  obtain ⟨o3, cap3, rfl, _, _, _⟩ := he.form
  clear hp ha he hcell
  have HR : Hid (reachV P n = cond (!decide ((P.length : Int) = 0) && (n.inB 67108864 && P.all (·.inB 67108864))) (.tuple #[.int .i64 (loP n P), .int .i64 (hiP n P)]) (.tuple #[.int .i64 0, .int .i64 0])) := rfl
  have HLE : Hid (loP n P = loK n P (P.length - 1)) := rfl
  have HHE : Hid (hiP n P = hiK n P (P.length - 1)) := rfl
  have HL0 : Hid (n.dot (pt P 0) = loK n P 0) := rfl
  have HH0 : Hid (n.dot (pt P 0) = hiK n P 0) := rfl
  have HLS : Hid _ := fun i => loK_prev n P i
  have HHS : Hid _ := fun i => hiK_prev n P i
  have HD : Hid (n.inB 67108864 = true → P.all (·.inB 67108864) = true → ∀ i, i < P.length → ∀ w', Calls Try.prog 30 #[n.v, (pt P i).v] w' fun e W => e = .returned (.int .i64 (n.dot (pt P i))) ∧ Below w'.heap.size w' W) := fun h1 h2 i hi w' => nrdot_any n (pt P i) w' (inB_mono h1 (by decide)) (inB_mono (List.all_eq_true.1 h2 _ (pt_mem hi)) (by decide))
  generalize reachV P n = R9 at *
  generalize P.all (·.inB 67108864) = k2 at *
  generalize n.inB 67108864 = k1 at *
  generalize loP n P = lo at *
  generalize hiP n P = hi at *
  generalize loK n P = lk at *
  generalize hiK n P = hk at *
  generalize hdt : (fun i => n.dot (pt P i)) = dt at *
  have hdt' : ∀ i, n.dot (pt P i) = dt i := fun i => by rw [← hdt]
  simp only [hdt'] at HD HL0 HH0 HLS HHS
  clear hdt hdt'
  obtain ⟨x, y, z⟩ := n
  unfold coreA Pt.v at *
  dsimp only at *
  obtain ⟨V, hV⟩ : ∃ V, V = (w0.alloc (.cells #[.slice o P.length cap, .slice o2 A.length cap2, .slice o3 E.length cap3, .int .i64 r] 24)).alloc (.cells #[.int .i64 x, .int .i64 y, .int .i64 z] 26) := ⟨_, rfl⟩
  obtain ⟨cb, hcb⟩ : ∃ b, b = w0.heap.size := ⟨_, rfl⟩
  obtain ⟨nb, hnb⟩ : ∃ b, b = w0.heap.size + 1 := ⟨_, rfl⟩
  have HB : Hid (Below w0.heap.size w0 V) := by show Below _ _ _; rw [hV]; exact b_step (n_after _ _) (n_after _ _)
  have c9 := Cel.two w0 [.slice o P.length cap, .slice o2 A.length cap2, .slice o3 E.length cap3, .int .i64 r] [.int .i64 x, .int .i64 y, .int .i64 z] 24 26
  have CC : Hid (Cel V cb [.slice o P.length cap, .slice o2 A.length cap2, .slice o3 E.length cap3, .int .i64 r]) := by show Cel _ _ _; rw [hV, hcb]; exact c9.1
  have CN : Hid (Cel V nb [.int .i64 x, .int .i64 y, .int .i64 z]) := by show Cel _ _ _; rw [hV, hnb]; exact c9.2
  clear c9
  go_enter Try.func15, Try.ntmps15
  go_upto_region 1 with fail
  rw [← hV, ← hnb, ← hcb]
  clear hV hcb hnb
  have d0 := CN.out 0 _ rfl
  have d1 := CN.out 1 _ rfl
  have d2 := CN.out 2 _ rfl
  go_wp2_with (fail)
  refine Calls.mono (H1.out _) ?_
  rintro e V1 ⟨rfl, hb⟩
  have CC : Hid _ := Cel.step CC.out hb
  have CN : Hid _ := Cel.step CN.out hb
  have HB : Hid _ := b_step HB.out hb
  clear hb d0 d1 d2
  have q0 := CC.out 0 _ rfl
  go_wp2_with (fail)
  refine Calls.mono (H2.out _ HB.out) ?_
  rintro e V2 ⟨rfl, hb⟩
  have CC : Hid _ := Cel.step CC.out hb
  have CN : Hid _ := Cel.step CN.out hb
  have HB : Hid _ := b_step HB.out hb
  clear hb q0 H1 H2
  have q0 := CC.out 0 _ rfl
  by_cases hl : (P.length : Int) = 0
  · rw [decide_eq_true hl] at HR
    go_wp2_with (fail)
    exact bodyPost_ret (v := .tuple #[.int .i64 0, .int .i64 0]) (by simp [results, Try.results15, go_sem]) rfl ⟨by rw [HR.out]; rfl, HB.out⟩
  · rw [decide_eq_false hl] at HR
    have hl2 : ¬ P.length = 0 := by omega
    have hl3 : ¬ P = [] := fun e => hl2 (by rw [e]; rfl)
    cases k1 with
    | false =>
      go_wp2_with (fail)
      exact bodyPost_ret (v := .tuple #[.int .i64 0, .int .i64 0]) (by simp [results, Try.results15, go_sem]) rfl ⟨by rw [HR.out]; rfl, HB.out⟩
    | true =>
      cases k2 with
      | false =>
        go_wp2_with (fail)
        exact bodyPost_ret (v := .tuple #[.int .i64 0, .int .i64 0]) (by simp [results, Try.results15, go_sem]) rfl ⟨by rw [HR.out]; rfl, HB.out⟩
      | true =>
        have HD9 : Hid (∀ i, i < P.length → ∀ w', Calls Try.prog 30 #[.agg #[.int .i64 x, .int .i64 y, .int .i64 z], .agg #[.int .i64 (pt P i).x, .int .i64 (pt P i).y, .int .i64 (pt P i).z]] w' fun e W => e = .returned (.int .i64 (dt i)) ∧ Below w'.heap.size w' W) := fun i hi w' => HD.out (by first | rfl | trivial) (by first | rfl | trivial) i hi w'
        clear HD
        have HR : Hid (R9 = .tuple #[.int .i64 lo, .int .i64 hi]) := HR.out
        go_upto_region 5 with fail
        clear q0
        go_cut [8] from 12 to 57 (fun s8 wx => s8 = .int .i64 (dt 0) ∧ Hid (Below V2.heap.size V2 wx))
        case first =>
          have h00 : 0 < P.length := by omega
          obtain ⟨g, f, rfl, x0, x1, x2⟩ := HC.out 0 h00
          rw [Nat.zero_mul, Nat.add_zero] at x0 x1 x2
          have x0 := c_after HB.out x0
          have x1 := c_after HB.out x1
          have x2 := c_after HB.out x2
          have HDD : Hid _ := HD9.out 0 h00
          generalize dt 0 = dd at *
          generalize (pt P 0).x = px at *
          generalize (pt P 0).y = py at *
          generalize (pt P 0).z = pz at *
          have q0 := CC.out 0 _ rfl
          have d0_ := CN.out 0 _ rfl
          have d1_ := CN.out 1 _ rfl
          have d2_ := CN.out 2 _ rfl
          refine RV.region_by (fun j v w => match j with | 0 => v = .agg #[.int .i64 (x), .int .i64 (y), .int .i64 (z)] | 1 => v = .pointer (some ⟨cb, 0, none⟩) | 2 => v = .slice (some ⟨g, f, none⟩) P.length cap | 3 => v = .pointer (some ⟨g, f, none⟩) | 4 => v = .agg #[.int .i64 (px), .int .i64 (py), .int .i64 (pz)] | 5 => v = .int .i64 (dd) | 6 => v = .int .i64 (dd) | _ => True) (fun γ L w9 => Below V2.heap.size V2 w9) (by kernel_rfl) (by kernel_rfl) (by kernel_rfl) (by kernel_rfl) ?_ ?_ ?_
          · exact (Below.refl _ V2).drew
          · generalize hD : dstOf _ = D
            generalize hWA : waitsFor _ = WA
            generalize hZ : Act.mk _ _ = Z
            obtain ⟨R, hR⟩ : ∃ R : Nat → Value → World → Prop, R = (fun j v w => match j with | 0 => v = .agg #[.int .i64 (x), .int .i64 (y), .int .i64 (z)] | 1 => v = .pointer (some ⟨cb, 0, none⟩) | 2 => v = .slice (some ⟨g, f, none⟩) P.length cap | 3 => v = .pointer (some ⟨g, f, none⟩) | 4 => v = .agg #[.int .i64 (px), .int .i64 (py), .int .i64 (pz)] | 5 => v = .int .i64 (dd) | 6 => v = .int .i64 (dd) | _ => True) := ⟨_, rfl⟩
            rw [← hR]
            have d0 : D 0 = some 29 := by rw [← hD]; rfl
            have d1 : D 1 = some 30 := by rw [← hD]; rfl
            have d2 : D 2 = some 31 := by rw [← hD]; rfl
            have d3 : D 3 = some 32 := by rw [← hD]; rfl
            have d4 : D 4 = some 33 := by rw [← hD]; rfl
            have d5 : D 5 = some 34 := by rw [← hD]; rfl
            have d6 : D 6 = some 8 := by rw [← hD]; rfl
            have r0 : ∀ v w, R 0 v w = (v = .agg #[.int .i64 (x), .int .i64 (y), .int .i64 (z)]) := fun v w => by rw [hR]; rfl
            have r1 : ∀ v w, R 1 v w = (v = .pointer (some ⟨cb, 0, none⟩)) := fun v w => by rw [hR]; rfl
            have r2 : ∀ v w, R 2 v w = (v = .slice (some ⟨g, f, none⟩) P.length cap) := fun v w => by rw [hR]; rfl
            have r3 : ∀ v w, R 3 v w = (v = .pointer (some ⟨g, f, none⟩)) := fun v w => by rw [hR]; rfl
            have r4 : ∀ v w, R 4 v w = (v = .agg #[.int .i64 (px), .int .i64 (py), .int .i64 (pz)]) := fun v w => by rw [hR]; rfl
            have r5 : ∀ v w, R 5 v w = (v = .int .i64 (dd)) := fun v w => by rw [hR]; rfl
            have r6 : ∀ v w, R 6 v w = (v = .int .i64 (dd)) := fun v w => by rw [hR]; rfl
            have E2 : ∀ (γ : Nat → Value) (L : Nat → Bool) (a : Act) (w : World), RV.Held D WA R (fun γ L w9 => Below V2.heap.size V2 w9) Z γ L a w → a.tmps[2]? = some (.pointer (some ⟨cb, 0, none⟩)) := fun γ L a w hH => (hH.rest 2 (by rw [← hD]; exact RV.dst_free (by kernel_rfl))).trans (by rw [← hZ]; rfl)
            have E3 : ∀ (γ : Nat → Value) (L : Nat → Bool) (a : Act) (w : World), RV.Held D WA R (fun γ L w9 => Below V2.heap.size V2 w9) Z γ L a w → a.tmps[3]? = some (.pointer (some ⟨nb, 0, none⟩)) := fun γ L a w hH => (hH.rest 3 (by rw [← hD]; exact RV.dst_free (by kernel_rfl))).trans (by rw [← hZ]; rfl)
            have K : ∀ j v w w', R j v w → R j v w' := by rw [hR]; intro j v w w' h; exact h
            clear hD hWA hZ hR
            refine RV.AllDo.cons 0 (RV.does_pure (fun γ v L w hl h => h) (fun γ L a w hH hl hA => by have e0 := E3 γ L a w hH; have hB9 := hH.glob; have z0 := c_after hB9 d0_; have z1 := c_after hB9 d1_; have z2 := c_after hB9 d2_; exact ⟨.agg #[.int .i64 (x), .int .i64 (y), .int .i64 (z)], by simp [execOp, go_sem, e0, z0, z1, z2], (r0 _ _).mpr rfl⟩)) ?_
            refine RV.AllDo.cons 1 (RV.does_pure (fun γ v L w hl h => h) (fun γ L a w hH hl hA => by have e0 := E2 γ L a w hH; exact ⟨.pointer (some ⟨cb, 0, none⟩), by simp [execOp, go_sem, e0], (r1 _ _).mpr rfl⟩)) ?_
            refine RV.AllDo.cons 2 (RV.does_pure (fun γ v L w hl h => h) (fun γ L a w hH hl hA => by have l0 : L 1 = true := hA ⟨1, .data⟩ (by simp) rfl; have e0 := hH.slot 1 30 d1 l0; have g0 := hH.holds 1 l0; rw [r1] at g0; rw [g0] at e0; have hB9 := hH.glob; have z0 := c_after hB9 q0; exact ⟨.slice (some ⟨g, f, none⟩) P.length cap, by simp [execOp, go_sem, e0, z0], (r2 _ _).mpr rfl⟩)) ?_
            refine RV.AllDo.cons 3 (RV.does_pure (fun γ v L w hl h => h) (fun γ L a w hH hl hA => by have l0 : L 2 = true := hA ⟨2, .data⟩ (by simp) rfl; have e0 := hH.slot 2 31 d2 l0; have g0 := hH.holds 2 l0; rw [r2] at g0; rw [g0] at e0; exact ⟨.pointer (some ⟨g, f, none⟩), by simp [execOp, go_sem, e0, h00], (r3 _ _).mpr rfl⟩)) ?_
            refine RV.AllDo.cons 4 (RV.does_pure (fun γ v L w hl h => h) (fun γ L a w hH hl hA => by have l0 : L 3 = true := hA ⟨3, .data⟩ (by simp) rfl; have e0 := hH.slot 3 32 d3 l0; have g0 := hH.holds 3 l0; rw [r3] at g0; rw [g0] at e0; have hB9 := hH.glob; have z0 := c_after hB9 x0; have z1 := c_after hB9 x1; have z2 := c_after hB9 x2; exact ⟨.agg #[.int .i64 (px), .int .i64 (py), .int .i64 (pz)], by simp [execOp, go_sem, e0, z0, z1, z2], (r4 _ _).mpr rfl⟩)) ?_
            refine RV.AllDo.cons 5 (RV.does_call (fun γ L a w hH hl hA => by have l0 : L 0 = true := hA ⟨0, .data⟩ (by simp) rfl; have e0 := hH.slot 0 29 d0 l0; have g0 := hH.holds 0 l0; rw [r0] at g0; rw [g0] at e0; have l1 : L 4 = true := hA ⟨4, .data⟩ (by simp) rfl; have e1 := hH.slot 4 33 d4 l1; have g1 := hH.holds 4 l1; rw [r4] at g1; rw [g1] at e1; have hB9 := hH.glob; exact ⟨30, #[.agg #[.int .i64 (x), .int .i64 (y), .int .i64 (z)], .agg #[.int .i64 (px), .int .i64 (py), .int .i64 (pz)]], by simp [go_sem, e0, e1], Calls.mono (HDD.out w) (by rintro e w2 ⟨rfl, hb⟩; exact ⟨_, rfl, (r5 _ _).mpr rfl, fun j v _ h => K j v _ _ h, hB9.trans (hb.mono hB9.size)⟩)⟩)) ?_
            refine RV.AllDo.cons 6 (RV.does_pure (fun γ v L w hl h => h) (fun γ L a w hH hl hA => by have l0 : L 5 = true := hA ⟨5, .data⟩ (by simp) rfl; have e0 := hH.slot 5 34 d5 l0; have g0 := hH.holds 5 l0; rw [r5] at g0; rw [g0] at e0; exact ⟨.int .i64 (dd), by simp [execOp, go_sem, e0], (r6 _ _).mpr rfl⟩)) ?_
            exact RV.AllDo.nil
          · intro γ a5 w5 L9 hL hLo hH
            have ha := RV.held_act hH hL (by kernel_rfl) (by kernel_rfl)
            have hb8 := hH.glob
            have y0 : γ 0 = .agg #[.int .i64 (x), .int .i64 (y), .int .i64 (z)] := hH.holds 0 (hL 0 (by decide))
            have y1 : γ 1 = .pointer (some ⟨cb, 0, none⟩) := hH.holds 1 (hL 1 (by decide))
            have y2 : γ 2 = .slice (some ⟨g, f, none⟩) P.length cap := hH.holds 2 (hL 2 (by decide))
            have y3 : γ 3 = .pointer (some ⟨g, f, none⟩) := hH.holds 3 (hL 3 (by decide))
            have y4 : γ 4 = .agg #[.int .i64 (px), .int .i64 (py), .int .i64 (pz)] := hH.holds 4 (hL 4 (by decide))
            have y5 : γ 5 = .int .i64 (dd) := hH.holds 5 (hL 5 (by decide))
            have y6 : γ 6 = .int .i64 (dd) := hH.holds 6 (hL 6 (by decide))
            rw [ha]
            clear ha hH hL hLo
            simp only [RV.putAll, Act.put, List.setIfInBounds_toArray, List.set_cons_zero, List.set_cons_succ, Nat.zero_add, Nat.reduceAdd, y0, y1, y2, y3, y4, y5, y6]
            clear y0 y1 y2 y3 y4 y5 y6
            have HZ : Hid _ := hb8
            go_wp2_with (fail)
            go_meet
            case rel => exact ⟨rfl, HZ⟩
        case rest =>
          obtain ⟨rfl, HB1⟩ := hcut
          go_wp2_with (fail)
          go_loopg [8, 9, 10] P.length (fun gm s8 s9 s10 wr => ∃ i : Nat, s8 = .int .i64 (lk (i - 1)) ∧ s9 = .int .i64 (hk (i - 1)) ∧ s10 = .int .i64 (i : Int) ∧ i ≤ P.length ∧ Hid (gm = P.length - i) ∧ Hid (Below V2.heap.size V2 wr))
          case atStart => exact ⟨0, by rw [HL0.out], by rw [HH0.out], rfl, Nat.zero_le _, rfl, HB1⟩
          case round =>
            obtain ⟨i, rfl, rfl, rfl, hi9, HG, HB2⟩ := hrel
            have HB3 : Hid (Below w0.heap.size w0 wr) := b_step HB.out HB2.out
            have q0 := c_after HB2.out (CC.out 0 _ rfl)
            by_cases hit : i < P.length
            · obtain ⟨g, f, rfl, x0, x1, x2⟩ := HC.out i hit
              have x0 := c_after HB3.out x0
              have x1 := c_after HB3.out x1
              have x2 := c_after HB3.out x2
              have HDD : Hid _ := HD9.out i hit
              have HS1 : Hid _ := HLS.out i
              have HS2 : Hid _ := HHS.out i
              generalize dt i = dd at *
              obtain ⟨la, hla⟩ : ∃ z, lk (i - 1) = z := ⟨_, rfl⟩
              obtain ⟨lb, hlb⟩ : ∃ z, lk i = z := ⟨_, rfl⟩
              obtain ⟨ma, hma⟩ : ∃ z, hk (i - 1) = z := ⟨_, rfl⟩
              obtain ⟨mb, hmb⟩ : ∃ z, hk i = z := ⟨_, rfl⟩
              rw [hla, hlb] at HS1
              rw [hma, hmb] at HS2
              rw [hla, hma]
              have zl : (if dd < la then dd else la) = lb := by rw [← HS1.out]; split <;> omega
              have zm : (if ma < dd then dd else ma) = mb := by rw [← HS2.out]; split <;> omega
              generalize (pt P i).x = px at *
              generalize (pt P i).y = py at *
              generalize (pt P i).z = pz at *
              have d0_ := c_after HB2.out (CN.out 0 _ rfl)
              have d1_ := c_after HB2.out (CN.out 1 _ rfl)
              have d2_ := c_after HB2.out (CN.out 2 _ rfl)
              go_upto_region 10 with fail
              go_cut [11] from 36 to 55 (fun s11 wx => s11 = .int .i64 dd ∧ Hid (Below wr.heap.size wr wx))
              case first =>
                refine RV.region_by (fun j v w => match j with | 0 => v = .agg #[.int .i64 (x), .int .i64 (y), .int .i64 (z)] | 1 => v = .pointer (some ⟨cb, 0, none⟩) | 2 => v = .slice (some ⟨g, f, none⟩) P.length cap | 3 => v = .int .i64 ((i : Int)) | 4 => v = .pointer (some ⟨g, f + i * 3, none⟩) | 5 => v = .agg #[.int .i64 (px), .int .i64 (py), .int .i64 (pz)] | 6 => v = .int .i64 (dd) | 7 => v = .int .i64 (dd) | _ => True) (fun γ L w9 => Below wr.heap.size wr w9) (by kernel_rfl) (by kernel_rfl) (by kernel_rfl) (by kernel_rfl) ?_ ?_ ?_
                · exact (Below.refl _ wr).drew
                · generalize hD : dstOf _ = D
                  generalize hWA : waitsFor _ = WA
                  generalize hZ : Act.mk _ _ = Z
                  obtain ⟨R, hR⟩ : ∃ R : Nat → Value → World → Prop, R = (fun j v w => match j with | 0 => v = .agg #[.int .i64 (x), .int .i64 (y), .int .i64 (z)] | 1 => v = .pointer (some ⟨cb, 0, none⟩) | 2 => v = .slice (some ⟨g, f, none⟩) P.length cap | 3 => v = .int .i64 ((i : Int)) | 4 => v = .pointer (some ⟨g, f + i * 3, none⟩) | 5 => v = .agg #[.int .i64 (px), .int .i64 (py), .int .i64 (pz)] | 6 => v = .int .i64 (dd) | 7 => v = .int .i64 (dd) | _ => True) := ⟨_, rfl⟩
                  rw [← hR]
                  have d0 : D 0 = some 43 := by rw [← hD]; rfl
                  have d1 : D 1 = some 44 := by rw [← hD]; rfl
                  have d2 : D 2 = some 45 := by rw [← hD]; rfl
                  have d3 : D 3 = some 46 := by rw [← hD]; rfl
                  have d4 : D 4 = some 47 := by rw [← hD]; rfl
                  have d5 : D 5 = some 48 := by rw [← hD]; rfl
                  have d6 : D 6 = some 49 := by rw [← hD]; rfl
                  have d7 : D 7 = some 11 := by rw [← hD]; rfl
                  have r0 : ∀ v w, R 0 v w = (v = .agg #[.int .i64 (x), .int .i64 (y), .int .i64 (z)]) := fun v w => by rw [hR]; rfl
                  have r1 : ∀ v w, R 1 v w = (v = .pointer (some ⟨cb, 0, none⟩)) := fun v w => by rw [hR]; rfl
                  have r2 : ∀ v w, R 2 v w = (v = .slice (some ⟨g, f, none⟩) P.length cap) := fun v w => by rw [hR]; rfl
                  have r3 : ∀ v w, R 3 v w = (v = .int .i64 ((i : Int))) := fun v w => by rw [hR]; rfl
                  have r4 : ∀ v w, R 4 v w = (v = .pointer (some ⟨g, f + i * 3, none⟩)) := fun v w => by rw [hR]; rfl
                  have r5 : ∀ v w, R 5 v w = (v = .agg #[.int .i64 (px), .int .i64 (py), .int .i64 (pz)]) := fun v w => by rw [hR]; rfl
                  have r6 : ∀ v w, R 6 v w = (v = .int .i64 (dd)) := fun v w => by rw [hR]; rfl
                  have r7 : ∀ v w, R 7 v w = (v = .int .i64 (dd)) := fun v w => by rw [hR]; rfl
                  have E2 : ∀ (γ : Nat → Value) (L : Nat → Bool) (a : Act) (w : World), RV.Held D WA R (fun γ L w9 => Below wr.heap.size wr w9) Z γ L a w → a.tmps[2]? = some (.pointer (some ⟨cb, 0, none⟩)) := fun γ L a w hH => (hH.rest 2 (by rw [← hD]; exact RV.dst_free (by kernel_rfl))).trans (by rw [← hZ]; rfl)
                  have E3 : ∀ (γ : Nat → Value) (L : Nat → Bool) (a : Act) (w : World), RV.Held D WA R (fun γ L w9 => Below wr.heap.size wr w9) Z γ L a w → a.tmps[3]? = some (.pointer (some ⟨nb, 0, none⟩)) := fun γ L a w hH => (hH.rest 3 (by rw [← hD]; exact RV.dst_free (by kernel_rfl))).trans (by rw [← hZ]; rfl)
                  have E10 : ∀ (γ : Nat → Value) (L : Nat → Bool) (a : Act) (w : World), RV.Held D WA R (fun γ L w9 => Below wr.heap.size wr w9) Z γ L a w → a.tmps[10]? = some (.int .i64 ((i : Int))) := fun γ L a w hH => (hH.rest 10 (by rw [← hD]; exact RV.dst_free (by kernel_rfl))).trans (by rw [← hZ]; rfl)
                  have K : ∀ j v w w', R j v w → R j v w' := by rw [hR]; intro j v w w' h; exact h
                  clear hD hWA hZ hR
                  refine RV.AllDo.cons 0 (RV.does_pure (fun γ v L w hl h => h) (fun γ L a w hH hl hA => by have e0 := E3 γ L a w hH; have hB9 := hH.glob; have z0 := c_after hB9 d0_; have z1 := c_after hB9 d1_; have z2 := c_after hB9 d2_; exact ⟨.agg #[.int .i64 (x), .int .i64 (y), .int .i64 (z)], by simp [execOp, go_sem, e0, z0, z1, z2], (r0 _ _).mpr rfl⟩)) ?_
                  refine RV.AllDo.cons 1 (RV.does_pure (fun γ v L w hl h => h) (fun γ L a w hH hl hA => by have e0 := E2 γ L a w hH; exact ⟨.pointer (some ⟨cb, 0, none⟩), by simp [execOp, go_sem, e0], (r1 _ _).mpr rfl⟩)) ?_
                  refine RV.AllDo.cons 2 (RV.does_pure (fun γ v L w hl h => h) (fun γ L a w hH hl hA => by have l0 : L 1 = true := hA ⟨1, .data⟩ (by simp) rfl; have e0 := hH.slot 1 44 d1 l0; have g0 := hH.holds 1 l0; rw [r1] at g0; rw [g0] at e0; have hB9 := hH.glob; have z0 := c_after hB9 q0; exact ⟨.slice (some ⟨g, f, none⟩) P.length cap, by simp [execOp, go_sem, e0, z0], (r2 _ _).mpr rfl⟩)) ?_
                  refine RV.AllDo.cons 3 (RV.does_pure (fun γ v L w hl h => h) (fun γ L a w hH hl hA => by have e0 := E10 γ L a w hH; exact ⟨.int .i64 ((i : Int)), by simp [execOp, go_sem, e0], (r3 _ _).mpr rfl⟩)) ?_
                  refine RV.AllDo.cons 4 (RV.does_pure (fun γ v L w hl h => h) (fun γ L a w hH hl hA => by have l0 : L 2 = true := hA ⟨2, .data⟩ (by simp) rfl; have e0 := hH.slot 2 45 d2 l0; have g0 := hH.holds 2 l0; rw [r2] at g0; rw [g0] at e0; have l1 : L 3 = true := hA ⟨3, .data⟩ (by simp) rfl; have e1 := hH.slot 3 46 d3 l1; have g1 := hH.holds 3 l1; rw [r3] at g1; rw [g1] at e1; exact ⟨.pointer (some ⟨g, f + i * 3, none⟩), by simp [execOp, go_sem, e0, e1, hit], (r4 _ _).mpr rfl⟩)) ?_
                  refine RV.AllDo.cons 5 (RV.does_pure (fun γ v L w hl h => h) (fun γ L a w hH hl hA => by have l0 : L 4 = true := hA ⟨4, .data⟩ (by simp) rfl; have e0 := hH.slot 4 47 d4 l0; have g0 := hH.holds 4 l0; rw [r4] at g0; rw [g0] at e0; have hB9 := hH.glob; have z0 := c_after hB9 x0; have z1 := c_after hB9 x1; have z2 := c_after hB9 x2; exact ⟨.agg #[.int .i64 (px), .int .i64 (py), .int .i64 (pz)], by simp [execOp, go_sem, e0, z0, z1, z2], (r5 _ _).mpr rfl⟩)) ?_
                  refine RV.AllDo.cons 6 (RV.does_call (fun γ L a w hH hl hA => by have l0 : L 0 = true := hA ⟨0, .data⟩ (by simp) rfl; have e0 := hH.slot 0 43 d0 l0; have g0 := hH.holds 0 l0; rw [r0] at g0; rw [g0] at e0; have l1 : L 5 = true := hA ⟨5, .data⟩ (by simp) rfl; have e1 := hH.slot 5 48 d5 l1; have g1 := hH.holds 5 l1; rw [r5] at g1; rw [g1] at e1; have hB9 := hH.glob; exact ⟨30, #[.agg #[.int .i64 (x), .int .i64 (y), .int .i64 (z)], .agg #[.int .i64 (px), .int .i64 (py), .int .i64 (pz)]], by simp [go_sem, e0, e1], Calls.mono (HDD.out w) (by rintro e w2 ⟨rfl, hb⟩; exact ⟨_, rfl, (r6 _ _).mpr rfl, fun j v _ h => K j v _ _ h, hB9.trans (hb.mono hB9.size)⟩)⟩)) ?_
                  refine RV.AllDo.cons 7 (RV.does_pure (fun γ v L w hl h => h) (fun γ L a w hH hl hA => by have l0 : L 6 = true := hA ⟨6, .data⟩ (by simp) rfl; have e0 := hH.slot 6 49 d6 l0; have g0 := hH.holds 6 l0; rw [r6] at g0; rw [g0] at e0; exact ⟨.int .i64 (dd), by simp [execOp, go_sem, e0], (r7 _ _).mpr rfl⟩)) ?_
                  exact RV.AllDo.nil
                · intro γ a5 w5 L9 hL hLo hH
                  have ha := RV.held_act hH hL (by kernel_rfl) (by kernel_rfl)
                  have hb8 := hH.glob
                  have y0 : γ 0 = .agg #[.int .i64 (x), .int .i64 (y), .int .i64 (z)] := hH.holds 0 (hL 0 (by decide))
                  have y1 : γ 1 = .pointer (some ⟨cb, 0, none⟩) := hH.holds 1 (hL 1 (by decide))
                  have y2 : γ 2 = .slice (some ⟨g, f, none⟩) P.length cap := hH.holds 2 (hL 2 (by decide))
                  have y3 : γ 3 = .int .i64 ((i : Int)) := hH.holds 3 (hL 3 (by decide))
                  have y4 : γ 4 = .pointer (some ⟨g, f + i * 3, none⟩) := hH.holds 4 (hL 4 (by decide))
                  have y5 : γ 5 = .agg #[.int .i64 (px), .int .i64 (py), .int .i64 (pz)] := hH.holds 5 (hL 5 (by decide))
                  have y6 : γ 6 = .int .i64 (dd) := hH.holds 6 (hL 6 (by decide))
                  have y7 : γ 7 = .int .i64 (dd) := hH.holds 7 (hL 7 (by decide))
                  rw [ha]
                  clear ha hH hL hLo
                  simp only [RV.putAll, Act.put, List.setIfInBounds_toArray, List.set_cons_zero, List.set_cons_succ, Nat.zero_add, Nat.reduceAdd, y0, y1, y2, y3, y4, y5, y6, y7]
                  clear y0 y1 y2 y3 y4 y5 y6 y7
                  have HZ : Hid _ := hb8
                  go_wp2_with (fail)
                  go_meet
                  case rel => exact ⟨rfl, HZ⟩
              case rest =>
                obtain ⟨rfl, HB4⟩ := hcut
                clear x0 x1 x2 q0 d0_ d1_ d2_ HDD
                go_wp2_with (fail)
                go_roundg (P.length - (i + 1))
                case rel => exact ⟨i + 1, by rw [Nat.add_sub_cancel, hlb], by rw [Nat.add_sub_cancel, hmb], by simp, by omega, rfl, b_step HB2.out HB4.out⟩
                case measure => have := HG.out; omega
            · obtain rfl : i = P.length := by omega
              have e1 : Hid _ := HLE.out
              have e2 : Hid _ := HHE.out
              clear HLE HHE
              go_wp2_with (fail)
              exact bodyPost_ret (v := .tuple #[.int .i64 (lk (P.length - 1)), .int .i64 (hk (P.length - 1))]) (by simp [results, Try.results15, go_sem]) rfl ⟨by rw [HR.out, e1.out, e2.out], HB3.out⟩
end Go.Proofs.Ytccdgpijjgeedaa
