/- Points of one plane: package shape's test. -/
import Derived.Test.YthcdpngkoejgpaaShE
namespace Go.Proofs.Ythcdpngkoejgpaa
open Go.RowKit Go.Shelf
set_option linter.unusedVariables false

set_option maxHeartbeats 2000000 in
set_option maxRecDepth 100000 in
theorem flat_any (v : Value) (Ls : List Pt) (w0 : World) (hv : Lies w0 v Ls) (h4 : 4 ≤ Ls.length) (h12 : Ls.length ≤ 12) (hin : ∀ p ∈ Ls, p.inB 65536 = true) :
    Calls Try.prog 80 #[v] w0 fun e W => e = .returned (.bool (flatP Ls)) ∧ Below w0.heap.size w0 W := by
  obtain ⟨o, c, rfl, hlc, hcm, hcell⟩ := hv.form
  have HC : Hid _ := hcell
  have HIN : Hid _ := hin
  obtain ⟨g, off, rfl, x0, x1, x2⟩ := hcell 0 (by omega)
  obtain ⟨g', off', e', y0, y1, y2⟩ := hcell 1 (by omega)
  simp only [Option.some.injEq, Addr.mk.injEq, and_true] at e'
  obtain ⟨rfl, rfl⟩ := e'
  clear hcell hv hin
  simp only [Nat.zero_mul, Nat.add_zero, Nat.one_mul] at x0 x1 x2 y0 y1 y2
  have hgl : g < w0.heap.size := World.block_lt_of_cell? _ _ x0
  have hl0 : 0 < Ls.length := by omega
  have hl1 : 1 < Ls.length := by omega
  have hain : (pt Ls 0).inB 65536 = true := HIN.out _ (pt_mem hl0)
  have hbin : (pt Ls 1).inB 65536 = true := HIN.out _ (pt_mem hl1)
  obtain ⟨R, hR⟩ : ∃ R, flatP Ls = R := ⟨_, rfl⟩
  rw [hR]
  have HR : Hid (Ls.all (fun c => Ls.all fun m => decide (vol (pt Ls 0) (pt Ls 1) c m = 0)) = R) := hR
  clear hR
  generalize pt Ls 0 = pa at *
  generalize pt Ls 1 = pb at *
  go_enter Try.func80, Try.ntmps80
  go_upto_region 1 with fail
  go_cut [3, 4] from 10 (fun s3 s4 wc => ∃ ba bb, s3 = .pointer (some ⟨ba, 0, none⟩) ∧ s4 = .pointer (some ⟨bb, 0, none⟩) ∧ Hid (Box3 wc ba pa) ∧ Hid (Box3 wc bb pb) ∧ Hid (Below w0.heap.size w0 wc))
  case first =>
    go_region
    · go_wp2_with (fail)
      go_meet
      case rel => exact ⟨_, _, rfl, rfl, (Box3.new w0 pa.x pa.y pa.z _).step ((n_after _ _).drew), (by have := Box3.new (w0.alloc (.cells #[.int .i64 pa.x, .int .i64 pa.y, .int .i64 pa.z] 26)) pb.x pb.y pb.z 26; rw [World.size_alloc] at this; exact this.step (Below.refl _ _).drew), (b_step (n_after w0 _) (n_after _ _)).drew⟩
    · go_wp2_with (fail)
      go_meet
      case rel => exact ⟨_, _, rfl, rfl, (by have := Box3.new (w0.alloc (.cells #[.int .i64 pb.x, .int .i64 pb.y, .int .i64 pb.z] 26)) pa.x pa.y pa.z 26; rw [World.size_alloc] at this; exact this.step (Below.refl _ _).drew), (Box3.new w0 pb.x pb.y pb.z _).step ((n_after _ _).drew), (b_step (n_after w0 _) (n_after _ _)).drew⟩
  case rest =>
    obtain ⟨ba, bb, rfl, rfl, BA, BB, HB⟩ := hcut
    clear x0 x1 x2 y0 y1 y2
    go_wp2_with (fail)
    go_loopg [18] Ls.length (fun gm i wr => ∃ k : Nat, i = .int .i64 (k : Int) ∧ k ≤ Ls.length ∧ gm = Ls.length - k ∧ Hid ((Ls.take k).all (fun c => Ls.all fun m => decide (vol pa pb c m = 0)) = true) ∧ Hid (Below wc.heap.size wc wr))
    case atStart => exact ⟨0, rfl, Nat.zero_le _, rfl, rfl, Below.refl _ _⟩
    case round =>
      obtain ⟨k, rfl, hk, hgm, HA, HBr⟩ := hrel
      have HG1 : Hid _ := hgm
      clear hgm
      by_cases hlt : k < Ls.length
      · obtain ⟨g', off', e', x0, x1, x2⟩ := HC.out k hlt
        simp only [Option.some.injEq, Addr.mk.injEq, and_true] at e'
        obtain ⟨rfl, rfl⟩ := e'
        have x0 := c_after (b_step HB.out HBr.out) x0
        have x1 := c_after (b_step HB.out HBr.out) x1
        have x2 := c_after (b_step HB.out HBr.out) x2
        have hcin := HIN.out _ (pt_mem hlt)
        have HS1 : Hid _ := all_snoc Ls (fun c => Ls.all fun m => decide (vol pa pb c m = 0)) k hlt
        have HM : Hid ((Ls.all fun m => decide (vol pa pb (pt Ls k) m = 0)) = false → R = false) := fun h => by
          rw [← HR.out, List.all_eq_false]
          exact ⟨_, pt_mem hlt, by rw [h]; decide⟩
        generalize pt Ls k = pc at *
        go_upto_region 5 with fail
        obtain ⟨V, hV⟩ : ∃ V : World, V = wr.alloc (.cells #[.int .i64 pc.x, .int .i64 pc.y, .int .i64 pc.z] 26) := ⟨_, rfl⟩
        obtain ⟨bc, hbc⟩ : ∃ bc, bc = wr.heap.size := ⟨_, rfl⟩
        have BC : Hid (Box3 (wr.alloc (.cells #[.int .i64 pc.x, .int .i64 pc.y, .int .i64 pc.z] 26)) wr.heap.size pc) := Box3.new wr pc.x pc.y pc.z _
        have HBV : Hid (Below wc.heap.size wc V) := by rw [hV]; exact b_step HBr.out (n_after _ _)
        rw [← hV, ← hbc] at BC ⊢
        clear hV hbc x0 x1 x2
        obtain ⟨p0, p1, p2, _, _, _⟩ := BA.out.step HBV.out
        obtain ⟨q0, q1, q2, _, _, _⟩ := BB.out.step HBV.out
        obtain ⟨s0, s1, s2, _, _, _⟩ := BC.out
        go_wp2_with (fail)
        refine Calls.mono (across_any pa pb pc _ hain hbin hcin) ?_
        rintro e W4 ⟨rfl, hb4⟩
        have HB4 : Hid _ := b_step HBV.out hb4
        clear hb4 p0 p1 p2 q0 q1 q2 s0 s1 s2
        have hnin := cross_in (sub_in hbin hain) (sub_in hcin hain)
        have HVO : Hid (∀ m, vol pa pb pc m = ((pb.sub pa).cross (pc.sub pa)).dot (m.sub pa)) := fun m => rfl
        generalize (pb.sub pa).cross (pc.sub pa) = n at *
        unfold Pt.v
        go_upto_region 6 with fail
        obtain ⟨W5, hW5⟩ : ∃ W5 : World, W5 = W4.alloc (.cells #[.int .i64 n.x, .int .i64 n.y, .int .i64 n.z] 26) := ⟨_, rfl⟩
        obtain ⟨bn, hbn⟩ : ∃ bn, bn = W4.heap.size := ⟨_, rfl⟩
        have BN : Hid (Box3 (W4.alloc (.cells #[.int .i64 n.x, .int .i64 n.y, .int .i64 n.z] 26)) W4.heap.size n) := Box3.new W4 n.x n.y n.z _
        have HB5 : Hid (Below wc.heap.size wc W5) := by rw [hW5]; exact b_step HB4.out (n_after _ _)
        rw [← hW5, ← hbn] at BN ⊢
        clear hW5 hbn
        have BA2 : Hid _ := BA.out.step HB5.out
        go_wp2_with (fail)
        go_loopg [28] Ls.length (fun gm i wx => ∃ q : Nat, i = .int .i64 (q : Int) ∧ q ≤ Ls.length ∧ gm = Ls.length - q ∧ Hid (((Ls.take q).all fun m => decide (vol pa pb pc m = 0)) = true) ∧ Hid (Below W5.heap.size W5 wx))
        case atStart => exact ⟨0, rfl, Nat.zero_le _, rfl, rfl, Below.refl _ _⟩
        case round =>
          obtain ⟨q, rfl, hq, hgm, HA2, HBq⟩ := hrel
          have HG2 : Hid _ := hgm
          clear hgm
          by_cases hqt : q < Ls.length
          · obtain ⟨g', off', e', x0, x1, x2⟩ := HC.out q hqt
            simp only [Option.some.injEq, Addr.mk.injEq, and_true] at e'
            obtain ⟨rfl, rfl⟩ := e'
            have x0 := c_after (b_step (b_step HB.out HB5.out) HBq.out) x0
            have x1 := c_after (b_step (b_step HB.out HB5.out) HBq.out) x1
            have x2 := c_after (b_step (b_step HB.out HB5.out) HBq.out) x2
            have hmin := HIN.out _ (pt_mem hqt)
            have HS2 : Hid _ := all_snoc Ls (fun m => decide (vol pa pb pc m = 0)) q hqt
            have HM2 : Hid (¬ vol pa pb pc (pt Ls q) = 0 → R = false) := fun h => HM.out (by
              rw [List.all_eq_false]
              exact ⟨_, pt_mem hqt, by simpa using h⟩)
            rw [HVO.out] at HM2
            generalize hpm : pt Ls q = m at *
            have HPM : Hid _ := hpm
            clear hpm
            go_upto_region 9 with fail
            obtain ⟨W6, hW6⟩ : ∃ W6 : World, W6 = wr.alloc (.cells #[.int .i64 m.x, .int .i64 m.y, .int .i64 m.z] 26) := ⟨_, rfl⟩
            obtain ⟨bm, hbm⟩ : ∃ bm, bm = wr.heap.size := ⟨_, rfl⟩
            have BM : Hid (Box3 (wr.alloc (.cells #[.int .i64 m.x, .int .i64 m.y, .int .i64 m.z] 26)) wr.heap.size m) := Box3.new wr m.x m.y m.z _
            have HB6 : Hid (Below W5.heap.size W5 W6) := by rw [hW6]; exact b_step HBq.out (n_after _ _)
            rw [← hW6, ← hbm] at BM ⊢
            clear hW6 hbm x0 x1 x2
            have L1 : Hid _ := fun w' => less_any m pa w' (inB_mono hmin (by decide)) (inB_mono hain (by decide))
            have L2 : Hid _ := fun w' => dot_any n (m.sub pa) w' hnin (sub_in hmin hain)
            unfold Pt.v at L1 L2
            obtain ⟨p0, p1, p2, _, _, _⟩ := BA2.out.step HB6.out
            obtain ⟨q0, q1, q2, _, _, _⟩ := BN.out.step HB6.out
            obtain ⟨s0, s1, s2, _, _, _⟩ := BM.out
            have HVM : Hid (vol pa pb pc m = n.dot (m.sub pa)) := HVO.out m
            refine RV.region_by (fun j v w => match j with | 0 => v = .agg #[.int .i64 (n.x), .int .i64 (n.y), .int .i64 (n.z)] | 1 => v = .agg #[.int .i64 (m.x), .int .i64 (m.y), .int .i64 (m.z)] | 2 => v = .agg #[.int .i64 (pa.x), .int .i64 (pa.y), .int .i64 (pa.z)] | 3 => v = .agg #[.int .i64 ((m.sub pa).x), .int .i64 ((m.sub pa).y), .int .i64 ((m.sub pa).z)] | 4 => v = .int .i64 (n.dot (m.sub pa)) | 5 => v = .bool (n.dot (m.sub pa) != 0) | _ => True) (fun γ L w9 => Below W6.heap.size W6 w9) (by kernel_rfl) (by kernel_rfl) (by kernel_rfl) (by kernel_rfl) ?_ ?_ ?_
            · exact (Below.refl _ W6).drew
            · generalize hD : dstOf _ = D
              generalize hWA : waitsFor _ = WA
              generalize hZ : Act.mk _ _ = Z
              obtain ⟨R, hR⟩ : ∃ R : Nat → Value → World → Prop, R = (fun j v w => match j with | 0 => v = .agg #[.int .i64 (n.x), .int .i64 (n.y), .int .i64 (n.z)] | 1 => v = .agg #[.int .i64 (m.x), .int .i64 (m.y), .int .i64 (m.z)] | 2 => v = .agg #[.int .i64 (pa.x), .int .i64 (pa.y), .int .i64 (pa.z)] | 3 => v = .agg #[.int .i64 ((m.sub pa).x), .int .i64 ((m.sub pa).y), .int .i64 ((m.sub pa).z)] | 4 => v = .int .i64 (n.dot (m.sub pa)) | 5 => v = .bool (n.dot (m.sub pa) != 0) | _ => True) := ⟨_, rfl⟩
              rw [← hR]
              have d0 : D 0 = some 32 := by rw [← hD]; rfl
              have d1 : D 1 = some 33 := by rw [← hD]; rfl
              have d2 : D 2 = some 34 := by rw [← hD]; rfl
              have d3 : D 3 = some 35 := by rw [← hD]; rfl
              have d4 : D 4 = some 36 := by rw [← hD]; rfl
              have d5 : D 5 = some 37 := by rw [← hD]; rfl
              have r0 : ∀ v w, R 0 v w = (v = .agg #[.int .i64 (n.x), .int .i64 (n.y), .int .i64 (n.z)]) := fun v w => by rw [hR]; rfl
              have r1 : ∀ v w, R 1 v w = (v = .agg #[.int .i64 (m.x), .int .i64 (m.y), .int .i64 (m.z)]) := fun v w => by rw [hR]; rfl
              have r2 : ∀ v w, R 2 v w = (v = .agg #[.int .i64 (pa.x), .int .i64 (pa.y), .int .i64 (pa.z)]) := fun v w => by rw [hR]; rfl
              have r3 : ∀ v w, R 3 v w = (v = .agg #[.int .i64 ((m.sub pa).x), .int .i64 ((m.sub pa).y), .int .i64 ((m.sub pa).z)]) := fun v w => by rw [hR]; rfl
              have r4 : ∀ v w, R 4 v w = (v = .int .i64 (n.dot (m.sub pa))) := fun v w => by rw [hR]; rfl
              have r5 : ∀ v w, R 5 v w = (v = .bool (n.dot (m.sub pa) != 0)) := fun v w => by rw [hR]; rfl
              have E3 : ∀ (γ : Nat → Value) (L : Nat → Bool) (a : Act) (w : World), RV.Held D WA R (fun γ L w9 => Below W6.heap.size W6 w9) Z γ L a w → a.tmps[3]? = some (.pointer (some ⟨ba, 0, none⟩)) := fun γ L a w hH => (hH.rest 3 (by rw [← hD]; exact RV.dst_free (by kernel_rfl))).trans (by rw [← hZ]; rfl)
              have E7 : ∀ (γ : Nat → Value) (L : Nat → Bool) (a : Act) (w : World), RV.Held D WA R (fun γ L w9 => Below W6.heap.size W6 w9) Z γ L a w → a.tmps[7]? = some (.pointer (some ⟨bn, 0, none⟩)) := fun γ L a w hH => (hH.rest 7 (by rw [← hD]; exact RV.dst_free (by kernel_rfl))).trans (by rw [← hZ]; rfl)
              have E9 : ∀ (γ : Nat → Value) (L : Nat → Bool) (a : Act) (w : World), RV.Held D WA R (fun γ L w9 => Below W6.heap.size W6 w9) Z γ L a w → a.tmps[9]? = some (.pointer (some ⟨bm, 0, none⟩)) := fun γ L a w hH => (hH.rest 9 (by rw [← hD]; exact RV.dst_free (by kernel_rfl))).trans (by rw [← hZ]; rfl)
              have K : ∀ j v w w', R j v w → R j v w' := by rw [hR]; intro j v w w' h; exact h
              clear hD hWA hZ hR
              refine RV.AllDo.cons 0 (RV.does_pure (fun γ v L w hl h => h) (fun γ L a w hH hl hA => by have e0 := E7 γ L a w hH; have hB9 := hH.glob; have z0 := c_after hB9 q0; have z1 := c_after hB9 q1; have z2 := c_after hB9 q2; exact ⟨.agg #[.int .i64 (n.x), .int .i64 (n.y), .int .i64 (n.z)], by simp [execOp, go_sem, e0, z0, z1, z2], (r0 _ _).mpr rfl⟩)) ?_
              refine RV.AllDo.cons 1 (RV.does_pure (fun γ v L w hl h => h) (fun γ L a w hH hl hA => by have e0 := E9 γ L a w hH; have hB9 := hH.glob; have z0 := c_after hB9 s0; have z1 := c_after hB9 s1; have z2 := c_after hB9 s2; exact ⟨.agg #[.int .i64 (m.x), .int .i64 (m.y), .int .i64 (m.z)], by simp [execOp, go_sem, e0, z0, z1, z2], (r1 _ _).mpr rfl⟩)) ?_
              refine RV.AllDo.cons 2 (RV.does_pure (fun γ v L w hl h => h) (fun γ L a w hH hl hA => by have e0 := E3 γ L a w hH; have hB9 := hH.glob; have z0 := c_after hB9 p0; have z1 := c_after hB9 p1; have z2 := c_after hB9 p2; exact ⟨.agg #[.int .i64 (pa.x), .int .i64 (pa.y), .int .i64 (pa.z)], by simp [execOp, go_sem, e0, z0, z1, z2], (r2 _ _).mpr rfl⟩)) ?_
              refine RV.AllDo.cons 3 (RV.does_call (fun γ L a w hH hl hA => by have l0 : L 1 = true := hA ⟨1, .data⟩ (by simp) rfl; have e0 := hH.slot 1 33 d1 l0; have g0 := hH.holds 1 l0; rw [r1] at g0; rw [g0] at e0; have l1 : L 2 = true := hA ⟨2, .data⟩ (by simp) rfl; have e1 := hH.slot 2 34 d2 l1; have g1 := hH.holds 2 l1; rw [r2] at g1; rw [g1] at e1; have hB9 := hH.glob; exact ⟨83, #[.agg #[.int .i64 (m.x), .int .i64 (m.y), .int .i64 (m.z)], .agg #[.int .i64 (pa.x), .int .i64 (pa.y), .int .i64 (pa.z)]], by simp [go_sem, e0, e1], Calls.mono (L1.out w) (by rintro e w2 ⟨rfl, hb⟩; exact ⟨_, rfl, (r3 _ _).mpr rfl, fun j v _ h => K j v _ _ h, hB9.trans (hb.mono hB9.size)⟩)⟩)) ?_
              refine RV.AllDo.cons 4 (RV.does_call (fun γ L a w hH hl hA => by have l0 : L 0 = true := hA ⟨0, .data⟩ (by simp) rfl; have e0 := hH.slot 0 32 d0 l0; have g0 := hH.holds 0 l0; rw [r0] at g0; rw [g0] at e0; have l1 : L 3 = true := hA ⟨3, .data⟩ (by simp) rfl; have e1 := hH.slot 3 35 d3 l1; have g1 := hH.holds 3 l1; rw [r3] at g1; rw [g1] at e1; have hB9 := hH.glob; exact ⟨82, #[.agg #[.int .i64 (n.x), .int .i64 (n.y), .int .i64 (n.z)], .agg #[.int .i64 ((m.sub pa).x), .int .i64 ((m.sub pa).y), .int .i64 ((m.sub pa).z)]], by simp [go_sem, e0, e1], Calls.mono (L2.out w) (by rintro e w2 ⟨rfl, hb⟩; exact ⟨_, rfl, (r4 _ _).mpr rfl, fun j v _ h => K j v _ _ h, hB9.trans (hb.mono hB9.size)⟩)⟩)) ?_
              refine RV.AllDo.cons 5 (RV.does_pure (fun γ v L w hl h => h) (fun γ L a w hH hl hA => by have l0 : L 4 = true := hA ⟨4, .data⟩ (by simp) rfl; have e0 := hH.slot 4 36 d4 l0; have g0 := hH.holds 4 l0; rw [r4] at g0; rw [g0] at e0; exact ⟨.bool (n.dot (m.sub pa) != 0), by simp [execOp, go_sem, e0], (r5 _ _).mpr rfl⟩)) ?_
              exact RV.AllDo.nil
            · intro γ a5 w5 L9 hL hLo hH
              have ha := RV.held_act hH hL (by kernel_rfl) (by kernel_rfl)
              have hb8 := hH.glob
              have y0 : γ 0 = .agg #[.int .i64 (n.x), .int .i64 (n.y), .int .i64 (n.z)] := hH.holds 0 (hL 0 (by decide))
              have y1 : γ 1 = .agg #[.int .i64 (m.x), .int .i64 (m.y), .int .i64 (m.z)] := hH.holds 1 (hL 1 (by decide))
              have y2 : γ 2 = .agg #[.int .i64 (pa.x), .int .i64 (pa.y), .int .i64 (pa.z)] := hH.holds 2 (hL 2 (by decide))
              have y3 : γ 3 = .agg #[.int .i64 ((m.sub pa).x), .int .i64 ((m.sub pa).y), .int .i64 ((m.sub pa).z)] := hH.holds 3 (hL 3 (by decide))
              have y4 : γ 4 = .int .i64 (n.dot (m.sub pa)) := hH.holds 4 (hL 4 (by decide))
              have y5 : γ 5 = .bool (n.dot (m.sub pa) != 0) := hH.holds 5 (hL 5 (by decide))
              rw [ha]
              clear ha hH hL hLo
              simp only [RV.putAll, Act.put, List.setIfInBounds_toArray, List.set_cons_zero, List.set_cons_succ, Nat.zero_add, Nat.reduceAdd, y0, y1, y2, y3, y4, y5]
              clear y0 y1 y2 y3 y4 y5
              have HB7 : Hid _ := HB6.out.trans (hb8.mono HB6.out.size)
              clear hb8 L1 L2 p0 p1 p2 q0 q1 q2 s0 s1 s2
              generalize n.dot (m.sub pa) = dd at *
              by_cases hd : dd = 0
              · subst hd
                have HS2 : Hid (((Ls.take (q + 1)).all fun m => decide (vol pa pb pc m = 0)) = true) := by show _ = _; rw [HS2.out, HA2.out]; simp [HVM.out]
                clear HVM HM2
                go_wp2_with (fail)
                go_roundg (Ls.length - (q + 1))
                case measure => have := HG2.out; omega
                case rel => exact ⟨q + 1, by go_num, by omega, rfl, HS2, HB7⟩
              · have e : R = false := HM2.out hd
                subst e
                have hd2 : (dd != 0) = true := bne_iff_ne.2 hd
                go_wp2_with (fail)
                go_ret
                exact ⟨rfl, b_step (b_step HB.out HB5.out) HB7.out⟩
          · have e2 : (Ls.all fun m => decide (vol pa pb pc m = 0)) = true := by
              have := HA2.out
              rwa [List.take_of_length_le (by omega : Ls.length ≤ q)] at this
            have HS1 : Hid ((Ls.take (k + 1)).all (fun c => Ls.all fun m => decide (vol pa pb c m = 0)) = true) := by show _ = _; rw [HS1.out, HA.out, e2]; rfl
            clear e2
            go_wp2_with (fail)
            go_roundg (Ls.length - (k + 1))
            case measure => have := HG1.out; omega
            case rel => exact ⟨k + 1, by go_num, by omega, rfl, HS1, b_step HB5.out HBq.out⟩
      · have e : R = true := by
          rw [← HR.out]
          have := HA.out
          rwa [List.take_of_length_le (by omega : Ls.length ≤ k)] at this
        subst e
        go_wp2_with (fail)
        go_ret
        exact ⟨rfl, b_step HB.out HBr.out⟩
end Go.Proofs.Ythcdpngkoejgpaa
