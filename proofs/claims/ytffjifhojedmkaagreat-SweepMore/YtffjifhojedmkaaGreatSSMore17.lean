/- A raw shape at a raw pose, by the document: a core that may be told apart. -/
import Derived.Test.YtffjifhojedmkaaGreatSSMore16
import Derived.Test.YtffjifhojedmkaaGreatSSMore6
import Derived.Test.YtffjifhojedmkaaGreatSSMore7
import Derived.Test.YtffjifhojedmkaaGreatSSMore12
import Derived.Test.YtffjifhojedmkaaGreatSSMore9
set_option linter.unusedVariables false
namespace Go.Proofs.YtffjifhojedmkaaGreat
section
open Go.RowKit Go.Shelf
set_option maxHeartbeats 8000000 in
set_option maxRecDepth 100000 in
theorem placed_any (k rr x y z : Int) (pv : Value) (Ls : List Pt) (y0 y1 y2 y3 y4 y5 y6 : Int) (w0 : World) (bk : -9223372036854775808 <= k /\ k <= 9223372036854775807) (br : -9223372036854775808 <= rr /\ rr <= 9223372036854775807) (bx : -9223372036854775808 <= x /\ x <= 9223372036854775807) (by_ : -9223372036854775808 <= y /\ y <= 9223372036854775807) (bz : -9223372036854775808 <= z /\ z <= 9223372036854775807) (hv : Lies w0 pv Ls) (hfit : ∀ p ∈ Ls, p.fits) (bq0 : -9223372036854775808 <= y0 /\ y0 <= 9223372036854775807) (bq1 : -9223372036854775808 <= y1 /\ y1 <= 9223372036854775807) (bq2 : -9223372036854775808 <= y2 /\ y2 <= 9223372036854775807) (bq3 : -9223372036854775808 <= y3 /\ y3 <= 9223372036854775807) (bq4 : -9223372036854775808 <= y4 /\ y4 <= 9223372036854775807) (bq5 : -9223372036854775808 <= y5 /\ y5 <= 9223372036854775807) (bq6 : -9223372036854775808 <= y6 /\ y6 <= 9223372036854775807) :
  Calls Tryz.prog 21 #[.agg #[.int .i64 k, .int .i64 rr, .int .i64 x, .int .i64 y, .int .i64 z, pv], .agg #[.int .i64 y0, .int .i64 y1, .int .i64 y2, .int .i64 y3, .int .i64 y4, .int .i64 y5, .int .i64 y6]] w0 fun e W => ∃ (c : Cr) (vp va ve : Value), e = .returned (.agg #[vp, va, ve, .int .i64 c.r]) /\ Hid (Three w0 W vp va ve c.P c.A c.E) /\ mayN c /\ (1 <= c.r /\ c.r <= 16384) := by
 have HR : Hid _ := fun w' (h : Below w0.heap.size w0 w') => right_any k rr x y z pv Ls w' bk br bx by_ bz (hv.below h) hfit
 have HQ : Hid _ := fun w' => right6_any y0 y1 y2 y3 y4 y5 y6 w' bq0 bq1 bq2 bq3 bq4 bq5 bq6
 clear bk br bx by_ bz bq0 bq1 bq2 bq3 bq4 bq5 bq6 hfit
 obtain ⟨po, pc, rfl, _⟩ := hv.form
 clear hv
 obtain ⟨W1, hW1⟩ : ∃ W1, W1 = ((w0.alloc (.cells #[.int .i64 k, .int .i64 rr, .int .i64 x, .int .i64 y, .int .i64 z, .slice po Ls.length pc] 26)).alloc (.cells #[.int .i64 y0, .int .i64 y1, .int .i64 y2, .int .i64 y3, .int .i64 y4, .int .i64 y5, .int .i64 y6] 31)).alloc (.cells #[.slice none 0 0, .slice none 0 0, .slice none 0 0, .int .i64 0] 35) := ⟨_, rfl⟩
 have B1 : Hid (Cells W1 w0.heap.size [.int .i64 k, .int .i64 rr, .int .i64 x, .int .i64 y, .int .i64 z, .slice po Ls.length pc]) := by show Cells _ _ _; rw [hW1]; exact ((Cells.new w0 [.int .i64 k, .int .i64 rr, .int .i64 x, .int .i64 y, .int .i64 z, .slice po Ls.length pc] _).step (n_after _ _)).step (n_after _ _)
 have CQ : Hid (Cells W1 (w0.heap.size + 1) [.int .i64 y0, .int .i64 y1, .int .i64 y2, .int .i64 y3, .int .i64 y4, .int .i64 y5, .int .i64 y6]) := by show Cells _ _ _; rw [hW1]; have h9 := (Cells.new (w0.alloc (.cells #[.int .i64 k, .int .i64 rr, .int .i64 x, .int .i64 y, .int .i64 z, .slice po Ls.length pc] 26)) [.int .i64 y0, .int .i64 y1, .int .i64 y2, .int .i64 y3, .int .i64 y4, .int .i64 y5, .int .i64 y6] 31).step (n_after _ (.cells #[.slice none 0 0, .slice none 0 0, .slice none 0 0, .int .i64 0] 35)); rw [World.size_alloc] at h9; exact h9
 have CO : Hid (Cells W1 (w0.heap.size + 1 + 1) [.slice none 0 0, .slice none 0 0, .slice none 0 0, .int .i64 0]) := by show Cells _ _ _; rw [hW1]; have h9 := Cells.new ((w0.alloc (.cells #[.int .i64 k, .int .i64 rr, .int .i64 x, .int .i64 y, .int .i64 z, .slice po Ls.length pc] 26)).alloc (.cells #[.int .i64 y0, .int .i64 y1, .int .i64 y2, .int .i64 y3, .int .i64 y4, .int .i64 y5, .int .i64 y6] 31)) [.slice none 0 0, .slice none 0 0, .slice none 0 0, .int .i64 0] 35; rw [World.size_alloc, World.size_alloc] at h9; exact h9
 have HB : Hid (Below w0.heap.size w0 W1) := by show Below _ _ _; rw [hW1]; exact b_step (b_step (n_after _ _) (n_after _ _)) (n_after _ _)
 obtain ⟨rb, hrb⟩ : ∃ b, b = w0.heap.size := ⟨_, rfl⟩
 obtain ⟨qb, hqb⟩ : ∃ b, b = w0.heap.size + 1 := ⟨_, rfl⟩
 obtain ⟨ob, hob⟩ : ∃ b, b = w0.heap.size + 1 + 1 := ⟨_, rfl⟩
 rw [<- hob] at CO
 rw [<- hqb] at CQ
 rw [<- hrb] at B1
 have hob0 : w0.heap.size <= ob := by omega
 go_enter Tryz.func21, Tryz.ntmps21
 go_upto_region 1 with fail
 rw [<- hW1, <- hob, <- hqb, <- hrb]
 clear hW1 hrb hqb hob
 obtain ⟨x0, x1, x2, x3, x4, x5⟩ : _ /\ _ /\ _ /\ _ /\ _ /\ _ := ⟨(B1.out 0 _ rfl).1, (B1.out 1 _ rfl).1, (B1.out 2 _ rfl).1, (B1.out 3 _ rfl).1, (B1.out 4 _ rfl).1, (B1.out 5 _ rfl).1⟩
 go_wp2_with (fail)
 refine Calls.mono (HR.out _ HB.out) ?_
 rintro e V1 ⟨sh, u, rfl, hrow, hgd, _⟩
 have hb := hrow.below
 have HC : Hid _ := rcore_any sh u V1 hrow.lies
 have CQ : Hid _ := Cells.step CQ.out hb
 have CO : Hid _ := Cells.step CO.out hb
 have HB : Hid _ := b_step HB.out hb
 have HGD : Hid _ := hgd
 clear hb x0 x1 x2 x3 x4 x5 B1 HR hrow hgd
 unfold Sh.v at HC
 go_wp2_with (fail)
 refine Calls.mono HC.out ?_
 rintro e V2 ⟨vp, va, ve, _, hok⟩
 obtain ⟨rfl, h3⟩ := hok HGD.out.ok
 have hb := h3.below
 have CQ : Hid _ := Cells.step CQ.out hb
 have CO : Hid _ := Cells.step CO.out hb
 have HB : Hid _ := b_step HB.out hb
 obtain ⟨op, cp, rfl⟩ := rowp_form h3.rp
 obtain ⟨oa, ca, rfl⟩ := rowp_form h3.ra
 obtain ⟨oe, ce, rfl⟩ := rowp_form h3.re
 have LP : Hid _ := Lies.of_row h3.rp
 have LA : Hid _ := Lies.of_row h3.ra
 have LE : Hid _ := Lies.of_row h3.re
 clear hb h3 HC hok
 have HPn : Hid _ := gd_pts HGD.out
 have HPi : Hid _ := gd_in HGD.out
 have HAt : Hid (∀ p ∈ axesP sh, p ≠ Pt.O /\ p.short = p) := (gd_axes HGD.out).1
 have HEt : Hid (∀ p ∈ edgesP sh, p ≠ Pt.O /\ p.short = p) := (gd_edges HGD.out).1
 have HAl : Hid _ := gd_alen HGD.out
 have hPl : (ptsP sh).length < 1099511627776 := by have := gd_len HGD.out; omega
 have HMY : Hid (∀ t q P2 A2 E2, Came t q (ptsP sh) (axesP sh) (edgesP sh) P2 A2 E2 -> mayN ⟨P2, A2, E2, sh.radius⟩) := fun t q P2 A2 E2 h => came_near HGD.out h
 have HRR : Hid (1 <= sh.radius /\ sh.radius <= 16384) := HGD.out.r
 generalize ptsP sh = Ps at *
 generalize axesP sh = As at *
 generalize edgesP sh = Es at *
 generalize sh.radius = sr at *
 clear HGD
 obtain ⟨X, hX⟩ : ∃ V, V = V2.alloc (.cells #[.slice op Ps.length cp, .slice oa As.length ca, .slice oe Es.length ce, .int .i64 sr] 35) := ⟨_, rfl⟩
 obtain ⟨b4, hb4⟩ : ∃ b, b = V2.heap.size := ⟨_, rfl⟩
 have hbx : Below V2.heap.size V2 X := by rw [hX]; exact n_after _ _
 have CC : Hid (Cells X b4 [.slice op Ps.length cp, .slice oa As.length ca, .slice oe Es.length ce, .int .i64 sr]) := by show Cells _ _ _; rw [hX, hb4]; exact Cells.new _ _ _
 go_upto_region 2 with fail
 rw [<- hX, <- hb4]
 have CQ : Hid _ := Cells.step CQ.out hbx
 have CO : Hid _ := Cells.step CO.out hbx
 have HB : Hid _ := b_step HB.out hbx
 have LP : Hid _ := LP.out.below hbx
 have LA : Hid _ := LA.out.below hbx
 have LE : Hid _ := LE.out.below hbx
 have hol : ob < X.heap.size := Cells.lt CO.out
 clear hX hb4 hbx
 go_cut [7] from 15 to 21 (fun s7 wx => ∃ (P2 A2 E2 : List Pt) (vp va ve : Value) (t : Pt) (q : Q4) (b8 : Nat), s7 = .pointer (some ⟨b8, 0, none⟩) /\ Three X wx vp va ve P2 A2 E2 /\ Came t q Ps As Es P2 A2 E2 /\ Cells wx b8 [vp, va, ve, .int .i64 sr] /\ Below X.heap.size X wx)
 case first =>
   refine RV.region_by2 (fun j v w => match j with | 0 => v = .agg #[.slice op Ps.length cp, .slice oa As.length ca, .slice oe Es.length ce, .int .i64 sr] | 1 => v = .agg #[.int .i64 y0, .int .i64 y1, .int .i64 y2, .int .i64 y3, .int .i64 y4, .int .i64 y5, .int .i64 y6] | 2 => (fun v w => ∃ (t : Pt) (q : Q4), v = poseV t q /\ t.inB 4398046511104 = true /\ WM.Whole q.w q.x q.y q.z) v w | 3 => True | 4 => True | 5 => True | 6 => v = .bool true | 7 => True | 8 => True | 9 => v = .bool true | _ => True) (fun γ L w => SG X sr Ps As Es (γ 2) (γ 3) (γ 4) (γ 5) (γ 7) (L 2) (L 3) (L 4) (L 5) (L 7) (L 8) w) (by kernel_rfl) (by kernel_rfl) (by kernel_rfl) (by kernel_rfl) ?_ ?_ ?_
   ·have b9 : Below X.heap.size X X.drew := (Below.refl _ _).drew; exact ⟨b9, (fun e => by cases e), (fun e => by cases e), (fun e => by cases e), (fun e => by cases e)⟩
   ·generalize hD : dstOf _ = D
    generalize hWA : waitsFor _ = WA
    generalize hZ : Act.mk _ _ = Z
    refine RV.AllDo.name ?_
    intro R hR
    have d0 : D 0 = some 16 := by rw [<- hD]; rfl
    have d1 : D 1 = some 17 := by rw [<- hD]; rfl
    have d2 : D 2 = some 18 := by rw [<- hD]; rfl
    have d3 : D 3 = some 19 := by rw [<- hD]; rfl
    have d4 : D 4 = some 15 := by rw [<- hD]; rfl
    have d5 : D 5 = some 20 := by rw [<- hD]; rfl
    have d6 : D 6 = some 21 := by rw [<- hD]; rfl
    have d7 : D 7 = some 7 := by rw [<- hD]; rfl
    have d9 : D 9 = some 8 := by rw [<- hD]; rfl
    have r0 : ∀ v w, R 0 v w = (v = .agg #[.slice op Ps.length cp, .slice oa As.length ca, .slice oe Es.length ce, .int .i64 sr]) := fun v w => by rw [hR]; rfl
    have r1 : ∀ v w, R 1 v w = (v = .agg #[.int .i64 y0, .int .i64 y1, .int .i64 y2, .int .i64 y3, .int .i64 y4, .int .i64 y5, .int .i64 y6]) := fun v w => by rw [hR]; rfl
    have r2 : ∀ v w, R 2 v w = ((fun v w => ∃ (t : Pt) (q : Q4), v = poseV t q /\ t.inB 4398046511104 = true /\ WM.Whole q.w q.x q.y q.z) v w) := fun v w => by rw [hR]; rfl
    have r3 : ∀ v w, R 3 v w = (True) := fun v w => by rw [hR]; rfl
    have r4 : ∀ v w, R 4 v w = (True) := fun v w => by rw [hR]; rfl
    have r5 : ∀ v w, R 5 v w = (True) := fun v w => by rw [hR]; rfl
    have r6 : ∀ v w, R 6 v w = (v = .bool true) := fun v w => by rw [hR]; rfl
    have r7 : ∀ v w, R 7 v w = (True) := fun v w => by rw [hR]; rfl
    have r8 : ∀ v w, R 8 v w = (True) := fun v w => by rw [hR]; rfl
    have r9 : ∀ v w, R 9 v w = (v = .bool true) := fun v w => by rw [hR]; rfl
    have F3_ : ∀ j, D j ≠ some 3 := by rw [<- hD]; exact RV.dst_free (by kernel_rfl)
    have Z3_ : Z.tmps[3]? = some (.pointer (some ⟨qb, 0, none⟩)) := by rw [<- hZ]; rfl
    have F5_ : ∀ j, D j ≠ some 5 := by rw [<- hD]; exact RV.dst_free (by kernel_rfl)
    have Z5_ : Z.tmps[5]? = some (.pointer (some ⟨b4, 0, none⟩)) := by rw [<- hZ]; rfl
    have K : ∀ j v w w', R j v w -> R j v w' := by rw [hR]; intro j v w w' h; exact h
    have A_4_3 : WA 4 3 := by rw [<- hWA]; exact ⟨_, rfl, ⟨3, .data⟩, by simp, rfl, rfl⟩
    have A_5_4 : WA 5 4 := by rw [<- hWA]; exact ⟨_, rfl, ⟨4, .data⟩, by simp, rfl, rfl⟩
    have A_8_5 : WA 8 5 := by rw [<- hWA]; exact ⟨_, rfl, ⟨5, .data⟩, by simp, rfl, rfl⟩
    have A_8_7 : WA 8 7 := by rw [<- hWA]; exact ⟨_, rfl, ⟨7, .data⟩, by simp, rfl, rfl⟩
    clear hD hWA hZ hR
    refine RV.cc 0 (RV.dp (fun γ v L w hl h => by rw [RV.upd_ne γ (i := 0) (j := 2) _ (by decide), RV.upd_ne γ (i := 0) (j := 3) _ (by decide), RV.upd_ne γ (i := 0) (j := 4) _ (by decide), RV.upd_ne γ (i := 0) (j := 5) _ (by decide), RV.upd_ne γ (i := 0) (j := 7) _ (by decide), RV.mn (L := L) (i := 0) (j := 2) (by decide), RV.mn (L := L) (i := 0) (j := 3) (by decide), RV.mn (L := L) (i := 0) (j := 4) (by decide), RV.mn (L := L) (i := 0) (j := 5) (by decide), RV.mn (L := L) (i := 0) (j := 7) (by decide), RV.mn (L := L) (i := 0) (j := 8) (by decide)]; exact h) (fun γ L a w hH hl hA => by have e0 := ((hH.rest 5 F5_).trans Z5_); have wz0 := (Cells.step CC.out hH.glob.be 0 _ rfl).1; have wz1 := (Cells.step CC.out hH.glob.be 1 _ rfl).1; have wz2 := (Cells.step CC.out hH.glob.be 2 _ rfl).1; have wz3 := (Cells.step CC.out hH.glob.be 3 _ rfl).1; exact ⟨.agg #[.slice op Ps.length cp, .slice oa As.length ca, .slice oe Es.length ce, .int .i64 sr], by simp [execOp, go_sem, e0, wz0, wz1, wz2, wz3], (r0 _ _).mpr rfl⟩)) ?_
    refine RV.cc 1 (RV.dp (fun γ v L w hl h => by rw [RV.upd_ne γ (i := 1) (j := 2) _ (by decide), RV.upd_ne γ (i := 1) (j := 3) _ (by decide), RV.upd_ne γ (i := 1) (j := 4) _ (by decide), RV.upd_ne γ (i := 1) (j := 5) _ (by decide), RV.upd_ne γ (i := 1) (j := 7) _ (by decide), RV.mn (L := L) (i := 1) (j := 2) (by decide), RV.mn (L := L) (i := 1) (j := 3) (by decide), RV.mn (L := L) (i := 1) (j := 4) (by decide), RV.mn (L := L) (i := 1) (j := 5) (by decide), RV.mn (L := L) (i := 1) (j := 7) (by decide), RV.mn (L := L) (i := 1) (j := 8) (by decide)]; exact h) (fun γ L a w hH hl hA => by have e0 := ((hH.rest 3 F3_).trans Z3_); have wz0 := (Cells.step CQ.out hH.glob.be 0 _ rfl).1; have wz1 := (Cells.step CQ.out hH.glob.be 1 _ rfl).1; have wz2 := (Cells.step CQ.out hH.glob.be 2 _ rfl).1; have wz3 := (Cells.step CQ.out hH.glob.be 3 _ rfl).1; have wz4 := (Cells.step CQ.out hH.glob.be 4 _ rfl).1; have wz5 := (Cells.step CQ.out hH.glob.be 5 _ rfl).1; have wz6 := (Cells.step CQ.out hH.glob.be 6 _ rfl).1; exact ⟨.agg #[.int .i64 y0, .int .i64 y1, .int .i64 y2, .int .i64 y3, .int .i64 y4, .int .i64 y5, .int .i64 y6], by simp [execOp, go_sem, e0, wz0, wz1, wz2, wz3, wz4, wz5, wz6], (r1 _ _).mpr rfl⟩)) ?_
    refine RV.cc 2 (RV.dc (fun γ L a w hH hl hA => by have e0 := hH.got d1 r1 (hA ⟨1, .data⟩ (by simp) rfl); refine ⟨24, #[.agg #[.int .i64 y0, .int .i64 y1, .int .i64 y2, .int .i64 y3, .int .i64 y4, .int .i64 y5, .int .i64 y6]], by simp [go_sem, e0], Calls.mono (HQ.out w) ?_⟩; rintro e w2 ⟨t, q, rfl, ht, hq, hb⟩; refine ⟨_, rfl, (r2 _ _).mpr ⟨t, q, rfl, ht, hq⟩, fun j v _ h => K j v _ _ h, ?_⟩; rw [RV.upd_ne γ (i := 2) (j := 3) _ (by decide), RV.upd_ne γ (i := 2) (j := 4) _ (by decide), RV.upd_ne γ (i := 2) (j := 5) _ (by decide), RV.upd_ne γ (i := 2) (j := 7) _ (by decide), RV.mn (L := L) (i := 2) (j := 3) (by decide), RV.mn (L := L) (i := 2) (j := 4) (by decide), RV.mn (L := L) (i := 2) (j := 5) (by decide), RV.mn (L := L) (i := 2) (j := 7) (by decide), RV.mn (L := L) (i := 2) (j := 8) (by decide)]; have h9 := hH.glob.step hb; exact ⟨h9.be, h9.t3, h9.m4, h9.m5, h9.pd⟩)) ?_
    refine RV.cc 3 (RV.dc (fun γ L a w hH hl hA => by have e0 := hH.got d0 r0 (hA ⟨0, .data⟩ (by simp) rfl); have l1 : L 2 = true := hA ⟨2, .data⟩ (by simp) rfl; have e1 := hH.slot 2 18 d2 l1; have g1 := hH.holds 2 l1; rw [r2] at g1; have h4 : L 4 = false := RV.ny hH A_4_3 hl; have h5 : L 5 = false := RV.ny hH A_5_4 h4; have h8 : L 8 = false := RV.ny hH A_8_5 h5; obtain ⟨t, q, hv1, ht, hq⟩ := g1; rw [hv1] at e1; refine ⟨26, #[.agg #[.slice op Ps.length cp, .slice oa As.length ca, .slice oe Es.length ce, .int .i64 sr], poseV t q], by simp [go_sem, e0, e1], Calls.mono (rplace_right t q (inB_mono ht (by decide)) hq Ps As Es HPn.out HPi.out HAt.out HEt.out hPl HAl.out.1 HAl.out.2 sr _ _ _ _ _ _ w (LP.out.below hH.glob.be) (LA.out.below hH.glob.be) (LE.out.below hH.glob.be)) ?_⟩; rintro e w2 ⟨Px2, Ax2, Ex2, vp, va, ve, rfl, hT, hC⟩; refine ⟨_, rfl, (r3 _ _).mpr trivial, fun j v _ h => K j v _ _ h, ?_⟩; rw [RV.upd_ne γ (i := 3) (j := 2) _ (by decide), RV.upd_ne γ (i := 3) (j := 4) _ (by decide), RV.upd_ne γ (i := 3) (j := 5) _ (by decide), RV.upd_ne γ (i := 3) (j := 7) _ (by decide), RV.mn (L := L) (i := 3) (j := 2) (by decide), RV.mn (L := L) (i := 3) (j := 4) (by decide), RV.mn (L := L) (i := 3) (j := 5) (by decide), RV.mn (L := L) (i := 3) (j := 7) (by decide), RV.mn (L := L) (i := 3) (j := 8) (by decide), RV.upd_self, RV.more_self]; exact hH.glob.got h4 h5 h8 hT hC)) ?_
    refine RV.cc 4 (RV.does_step (fun γ L a w hH hl hA => by have l0 : L 3 = true := hA ⟨3, .data⟩ (by simp) rfl; have e0 := hH.slot 3 19 d3 l0; have g0 := hH.holds 3 l0; rw [r3] at g0; exact ⟨γ 3, w, by simp [execOp, go_sem, e0], (r4 _ _).mpr trivial, fun j v _ h => K j v _ _ h, by rw [RV.upd_ne γ (i := 4) (j := 2) _ (by decide), RV.upd_ne γ (i := 4) (j := 3) _ (by decide), RV.upd_ne γ (i := 4) (j := 5) _ (by decide), RV.upd_ne γ (i := 4) (j := 7) _ (by decide), RV.mn (L := L) (i := 4) (j := 2) (by decide), RV.mn (L := L) (i := 4) (j := 3) (by decide), RV.mn (L := L) (i := 4) (j := 5) (by decide), RV.mn (L := L) (i := 4) (j := 7) (by decide), RV.mn (L := L) (i := 4) (j := 8) (by decide), RV.upd_self]; exact ⟨hH.glob.be, hH.glob.t3, fun _ => rfl, hH.glob.m5, hH.glob.pd⟩⟩)) ?_
    refine RV.cc 5 (RV.does_step (fun γ L a w hH hl hA => by have l0 : L 4 = true := hA ⟨4, .data⟩ (by simp) rfl; have e0 := hH.slot 4 15 d4 l0; have g0 := hH.holds 4 l0; rw [r4] at g0; have l3 : L 3 = true := hH.closed 4 3 A_4_3 l0; obtain ⟨Px2, Ax2, Ex2, vp, va, ve, t, q, x1, x2, x3⟩ := hH.glob.t3 l3; have x4 := hH.glob.m4 l0; rw [x4, x1] at e0; refine ⟨.agg #[vp, va, ve, .int .i64 sr], w, by simp [execOp, go_sem, e0], (r5 _ _).mpr trivial, fun j v _ h => K j v _ _ h, ?_⟩; rw [RV.upd_ne γ (i := 5) (j := 2) _ (by decide), RV.upd_ne γ (i := 5) (j := 3) _ (by decide), RV.upd_ne γ (i := 5) (j := 4) _ (by decide), RV.upd_ne γ (i := 5) (j := 7) _ (by decide), RV.mn (L := L) (i := 5) (j := 2) (by decide), RV.mn (L := L) (i := 5) (j := 3) (by decide), RV.mn (L := L) (i := 5) (j := 4) (by decide), RV.mn (L := L) (i := 5) (j := 7) (by decide), RV.mn (L := L) (i := 5) (j := 8) (by decide), RV.upd_self]; exact ⟨hH.glob.be, hH.glob.t3, hH.glob.m4, fun _ => by rw [x1]; rfl, hH.glob.pd⟩)) ?_
    refine RV.cc 6 (RV.does_step (fun γ L a w hH hl hA => by have l0 : L 4 = true := hA ⟨4, .data⟩ (by simp) rfl; have e0 := hH.slot 4 15 d4 l0; have g0 := hH.holds 4 l0; rw [r4] at g0; have l3 : L 3 = true := hH.closed 4 3 A_4_3 l0; obtain ⟨Px2, Ax2, Ex2, vp, va, ve, t, q, x1, x2, x3⟩ := hH.glob.t3 l3; have x4 := hH.glob.m4 l0; rw [x4, x1] at e0; refine ⟨.bool true, w, by simp [execOp, go_sem, e0], (r6 _ _).mpr rfl, fun j v _ h => K j v _ _ h, ?_⟩; rw [RV.upd_ne γ (i := 6) (j := 2) _ (by decide), RV.upd_ne γ (i := 6) (j := 3) _ (by decide), RV.upd_ne γ (i := 6) (j := 4) _ (by decide), RV.upd_ne γ (i := 6) (j := 5) _ (by decide), RV.upd_ne γ (i := 6) (j := 7) _ (by decide), RV.mn (L := L) (i := 6) (j := 2) (by decide), RV.mn (L := L) (i := 6) (j := 3) (by decide), RV.mn (L := L) (i := 6) (j := 4) (by decide), RV.mn (L := L) (i := 6) (j := 5) (by decide), RV.mn (L := L) (i := 6) (j := 7) (by decide), RV.mn (L := L) (i := 6) (j := 8) (by decide)]; exact hH.glob)) ?_
    refine RV.cc 7 (RV.does_step (fun γ L a w hH hl hA => by have h8 : L 8 = false := RV.ny hH A_8_7 hl; refine ⟨.pointer (some ⟨w.heap.size, 0, none⟩), w.alloc (.cells #[.slice none 0 0, .slice none 0 0, .slice none 0 0, .int .i64 0] 35), by simp [execOp, go_sem], (r7 _ _).mpr trivial, fun j v _ h => K j v _ _ h, ?_⟩; rw [RV.upd_ne γ (i := 7) (j := 2) _ (by decide), RV.upd_ne γ (i := 7) (j := 3) _ (by decide), RV.upd_ne γ (i := 7) (j := 4) _ (by decide), RV.upd_ne γ (i := 7) (j := 5) _ (by decide), RV.mn (L := L) (i := 7) (j := 2) (by decide), RV.mn (L := L) (i := 7) (j := 3) (by decide), RV.mn (L := L) (i := 7) (j := 4) (by decide), RV.mn (L := L) (i := 7) (j := 5) (by decide), RV.mn (L := L) (i := 7) (j := 8) (by decide), RV.upd_self, RV.more_self]; exact hH.glob.made h8)) ?_
    refine RV.cc 8 (RV.does_store (fun γ L a w hH hl hA => by have l0 : L 7 = true := hA ⟨7, .data⟩ (by simp) rfl; have e0 := hH.slot 7 7 d7 l0; have g0 := hH.holds 7 l0; rw [r7] at g0; have l1 : L 5 = true := hA ⟨5, .data⟩ (by simp) rfl; have e1 := hH.slot 5 20 d5 l1; have g1 := hH.holds 5 l1; rw [r5] at g1; have hG := hH.glob; have m4 : L 4 = true := hH.closed 5 4 A_5_4 l1; have m3 : L 3 = true := hH.closed 4 3 A_4_3 m4; rw [m3, l0] at hG; obtain ⟨Px2, Ax2, Ex2, vp, va, ve, t, q, x1, x2, x3⟩ := hG.t3 rfl; obtain ⟨b, cs, k1, k2, k3, k4, _⟩ := hG.pd rfl; have x5 := hG.m5 l1; rw [x1] at x5; obtain ⟨o5_, c5_, rfl⟩ := rowp_form x2.rp; obtain ⟨o9_, c9_, rfl⟩ := rowp_form x2.ra; obtain ⟨o13_, c13_, rfl⟩ := rowp_form x2.re; rw [k1] at e0; rw [x5] at e1; have q9 := hG.fill k1 k2 k3 k4 x1; obtain ⟨q0, q1, q2, q3, rfl⟩ := arr4' k4; have wz0 : w.cell? ⟨b, 0, none⟩ = some q0 := (by simp [World.cell?, k3]); have wz1 : w.cell? ⟨b, 1, none⟩ = some q1 := (by simp [World.cell?, k3]); have wz2 : w.cell? ⟨b, 2, none⟩ = some q2 := (by simp [World.cell?, k3]); have wz3 : w.cell? ⟨b, 3, none⟩ = some q3 := (by simp [World.cell?, k3]); have zf : ∀ o, w.frozen? ⟨b, o, none⟩ = false := fun o => (by simp [World.frozen?, k3]); refine ⟨_, by simp [execOp, go_sem, e0, e1, cp0, wz0, wz1, wz2, wz3, zf]; rfl, (r8 _ _).mpr trivial, fun j v _ h => K j v _ _ h, ?_⟩; rw [RV.upd_ne γ (i := 8) (j := 2) _ (by decide), RV.upd_ne γ (i := 8) (j := 3) _ (by decide), RV.upd_ne γ (i := 8) (j := 4) _ (by decide), RV.upd_ne γ (i := 8) (j := 5) _ (by decide), RV.upd_ne γ (i := 8) (j := 7) _ (by decide), RV.mn (L := L) (i := 8) (j := 2) (by decide), RV.mn (L := L) (i := 8) (j := 3) (by decide), RV.mn (L := L) (i := 8) (j := 4) (by decide), RV.mn (L := L) (i := 8) (j := 5) (by decide), RV.mn (L := L) (i := 8) (j := 7) (by decide), RV.more_self, m3, l0]; exact q9)) ?_
    refine RV.cc 9 (RV.dp (fun γ v L w hl h => by rw [RV.upd_ne γ (i := 9) (j := 2) _ (by decide), RV.upd_ne γ (i := 9) (j := 3) _ (by decide), RV.upd_ne γ (i := 9) (j := 4) _ (by decide), RV.upd_ne γ (i := 9) (j := 5) _ (by decide), RV.upd_ne γ (i := 9) (j := 7) _ (by decide), RV.mn (L := L) (i := 9) (j := 2) (by decide), RV.mn (L := L) (i := 9) (j := 3) (by decide), RV.mn (L := L) (i := 9) (j := 4) (by decide), RV.mn (L := L) (i := 9) (j := 5) (by decide), RV.mn (L := L) (i := 9) (j := 7) (by decide), RV.mn (L := L) (i := 9) (j := 8) (by decide)]; exact h) (fun γ L a w hH hl hA => by have e0 := hH.got d6 r6 (hA ⟨6, .data⟩ (by simp) rfl); exact ⟨.bool true, by simp [execOp, go_sem, e0], (r9 _ _).mpr rfl⟩)) ?_
    exact RV.AllDo.nil
   ·intro γ a5 w5 L9 hL hLo hH
    have ha := RV.held_act hH hL (by kernel_rfl) (by kernel_rfl)
    have hG := hH.glob
    rw [hL 2 (by decide), hL 3 (by decide), hL 4 (by decide), hL 5 (by decide), hL 7 (by decide), hL 8 (by decide)] at hG
    obtain ⟨Px2, Ax2, Ex2, vp, va, ve, t, q, x1, x2, x3⟩ := hG.t3 rfl
    obtain ⟨b8, cs, k1, k2, k3, k4, k5⟩ := hG.pd rfl
    have e6 : γ 6 = .bool true := hH.holds 6 (hL 6 (by decide))
    have e9_ : γ 9 = .bool true := hH.holds 9 (hL 9 (by decide))
    rw [(k5 rfl).2 _ _ _ x1] at k3
    rw [ha]
    clear ha hH hL hLo k5
    simp only [RV.putAll, Act.put, List.setIfInBounds_toArray, List.set_cons_zero, List.set_cons_succ, Nat.zero_add, Nat.reduceAdd]
    rw [k1, e9_, e6]
    have C8 : Cells w5 b8 [vp, va, ve, .int .i64 sr] := fun i v e => ⟨by simp [World.cell?, k3]; exact e, by simp [World.frozen?, k3]⟩
    obtain ⟨o5_, c5_, rfl⟩ := rowp_form x2.rp
    obtain ⟨o9_, c9_, rfl⟩ := rowp_form x2.ra
    obtain ⟨o13_, c13_, rfl⟩ := rowp_form x2.re
    have hB5 := hG.be
    clear hG k1 k3 k4 x1
    go_wp2_with (fail)
    go_meet
    case rel => exact ⟨Px2, Ax2, Ex2, _, _, _, t, q, b8, rfl, x2, x3, C8, hB5⟩
 case rest =>
  obtain ⟨P2, A2, E2, vp, va, ve, t, q, b8, rfl, hT, hC, h8, hbw⟩ := hcut
  have HM : Hid _ := HMY.out _ _ _ _ _ hC
  have CO : Hid _ := Cells.step CO.out hbw
  have hr : ∀ {u : Value} {n : Nat} {xs : List Value}, wc.ownsRow X.heap.size 23 3 u n xs -> u.ownBlock ≠ some ob := fun h9 e => by have := (h9.lt ob e).1; omega
  have HT : Hid _ := (hT.up HB.out).set hob0 (hr hT.rp) (hr hT.ra) (hr hT.re) vp va ve (.int .i64 sr)
  obtain ⟨o7, c7, rfl⟩ := rowp_form hT.rp
  obtain ⟨o8, c8, rfl⟩ := rowp_form hT.ra
  obtain ⟨o9, c9, rfl⟩ := rowp_form hT.re
  obtain ⟨m0, m1, m2, m3⟩ : _ /\ _ /\ _ /\ _ := ⟨(h8 0 _ rfl).1, (h8 1 _ rfl).1, (h8 2 _ rfl).1, (h8 3 _ rfl).1⟩
  obtain ⟨z0, zf0⟩ := CO.out 0 _ rfl
  obtain ⟨z1, zf1⟩ := CO.out 1 _ rfl
  obtain ⟨z2, zf2⟩ := CO.out 2 _ rfl
  obtain ⟨z3, zf3⟩ := CO.out 3 _ rfl
  unfold set4 at HT
  clear hT hC h8 hbw hr HMY LP LA LE CC CQ HB HQ
  go_wp2_with (fail)
  exact bodyPost_ret (v := .agg #[.slice o7 P2.length c7, .slice o8 A2.length c8, .slice o9 E2.length c9, .int .i64 sr]) (by simp [results, Tryz.results21, go_sem, z0, z1, z2, z3]) rfl ⟨⟨P2, A2, E2, sr⟩, _, _, _, rfl, HT, HM.out, HRR.out⟩
end
section
open Go.RowKit Go.Shelf
theorem setg (W : World) (b o : Nat) (u : Value) : W.grownBy (W.setCell ⟨b, o, none⟩ u) (some b) := ⟨rfl, rfl, rfl, by simp [World.setCell], fun k _ hk => Below.heap_setCell _ _ _ k (fun e => hk (by rw [e]))⟩
theorem Lies.put {W : World} {v : Value} {Ls : List Pt} (h : Lies W v Ls) {b : Nat} (hne : ∀ q n c, v = .slice (some q) n c -> Ls ≠ [] -> q.block ≠ b) (x y z : Value) : Lies (((W.setCell ⟨b, 0, none⟩ x).setCell ⟨b, 1, none⟩ y).setCell ⟨b, 2, none⟩ z) v Ls :=
 ((h.grown (setg W b 0 x) hne).grown (setg _ b 1 y) hne).grown (setg _ b 2 z) hne
theorem Cells.put3 {W : World} {b b' : Nat} {vs : List Value} (h : Cells W b vs) (hne : b ≠ b') (x y z : Value) : Cells (((W.setCell ⟨b', 0, none⟩ x).setCell ⟨b', 1, none⟩ y).setCell ⟨b', 2, none⟩ z) b vs := ((h.apart hne 0 x).apart hne 1 y).apart hne 2 z
theorem Lies.far {W : World} {v : Value} {Ls : List Pt} (h : Lies W v Ls) {b : Nat} (hb : W.heap.size <= b) : ∀ q n c, v = .slice (some q) n c -> Ls ≠ [] -> q.block ≠ b := fun q n c e h0 e' => by
 subst e
 have := h.lt h0
 omega
theorem own_far {W : World} {base n : Nat} {v : Value} {xs : List Value} (h : W.ownsRow base 23 3 v n xs) {b : Nat} (hb : b < base) {Ls : List Pt} : ∀ q k c, v = .slice (some q) k c -> Ls ≠ [] -> q.block ≠ b := fun q k c e _ e' => by
 subst e
 have := (h.lt q.block rfl).1
 omega
end
section
open Go.RowKit Go.Shelf
def farL (n : Nat) (v : Value) (L : List Pt) : Prop := ∀ q k c, v = .slice (some q) k c -> L ≠ [] -> n <= q.block
theorem own_farL {W : World} {base m n : Nat} {v : Value} {xs : List Value} {L : List Pt} (h : W.ownsRow base 23 3 v n xs) (hm : m <= base) : farL m v L := fun q k c e _ => by
 subst e
 have := (h.lt q.block rfl).1
 omega
theorem Lies.put4 {W : World} {v : Value} {Ls : List Pt} (h : Lies W v Ls) {b : Nat} (hne : ∀ q n c, v = .slice (some q) n c -> Ls ≠ [] -> q.block ≠ b) (x y z u : Value) : Lies (set4 W b x y z u) v Ls := (h.put hne x y z).grown (setg _ b 3 u) hne
theorem cells_apart4 {W : World} {b b' : Nat} {vs : List Value} (h : Cells W b vs) (hne : b ≠ b') (v0 v1 v2 v3 : Value) : Cells (set4 W b' v0 v1 v2 v3) b vs := by
 unfold set4
 exact (((Cells.apart h hne 0 v0).apart hne 1 v1).apart hne 2 v2).apart hne 3 v3
set_option maxHeartbeats 16000000 in
set_option maxRecDepth 100000 in
theorem cores_any (k1 r1 x1 y1 z1 : Int) (o1 : Option Addr) (L1 : List Pt) (c1 : Nat) (k2 r2 x2 y2 z2 : Int) (o2 : Option Addr) (L2 : List Pt) (c2 : Nat) (p0 p1 p2 p3 p4 p5 p6 q0 q1 q2 q3 q4 q5 q6 nr wx wy wz : Int) (w0 : World)
  (hb : ∀ v ∈ ([k1, r1, x1, y1, z1, k2, r2, x2, y2, z2, p0, p1, p2, p3, p4, p5, p6, q0, q1, q2, q3, q4, q5, q6, nr, wx, wy, wz] : List Int), -9223372036854775808 <= v /\ v <= 9223372036854775807) (hL1 : Lies w0 (.slice o1 L1.length c1) L1) (hF1 : ∀ p ∈ L1, p.fits) (hL2 : Lies w0 (.slice o2 L2.length c2) L2) (hF2 : ∀ p ∈ L2, p.fits) :
  Calls Tryz.prog 8 #[.agg #[.int .i64 k1, .int .i64 r1, .int .i64 x1, .int .i64 y1, .int .i64 z1, .slice o1 L1.length c1, .int .i64 k2, .int .i64 r2, .int .i64 x2, .int .i64 y2, .int .i64 z2, .slice o2 L2.length c2, .int .i64 p0, .int .i64 p1, .int .i64 p2, .int .i64 p3, .int .i64 p4, .int .i64 p5, .int .i64 p6, .int .i64 q0, .int .i64 q1, .int .i64 q2, .int .i64 q3, .int .i64 q4, .int .i64 q5, .int .i64 q6, .int .i64 nr, .int .i64 wx, .int .i64 wy, .int .i64 wz]] w0 fun e W => ∃ (a b : Cr) (va1 va2 va3 vb1 vb2 vb3 : Value), e = .returned (.tuple #[.agg #[va1, va2, va3, .int .i64 a.r], .agg #[vb1, vb2, vb3, .int .i64 b.r]]) /\ Hid (Lies W va1 a.P /\ Lies W va2 a.A /\ Lies W va3 a.E /\ Lies W vb1 b.P /\ Lies W vb2 b.A /\ Lies W vb3 b.E /\ Below w0.heap.size w0 W) /\ mayN a /\ mayN b /\ (1 <= a.r /\ a.r <= 16384) /\ (1 <= b.r /\ b.r <= 16384) /\ Hid (farL w0.heap.size va1 a.P /\ farL w0.heap.size va2 a.A /\ farL w0.heap.size va3 a.E /\ farL w0.heap.size vb1 b.P /\ farL w0.heap.size vb2 b.A /\ farL w0.heap.size vb3 b.E) := by
 have b_k1 := hb k1 (by simp)
 have b_r1 := hb r1 (by simp)
 have b_x1 := hb x1 (by simp)
 have b_y1 := hb y1 (by simp)
 have b_z1 := hb z1 (by simp)
 have b_k2 := hb k2 (by simp)
 have b_r2 := hb r2 (by simp)
 have b_x2 := hb x2 (by simp)
 have b_y2 := hb y2 (by simp)
 have b_z2 := hb z2 (by simp)
 have b_p0 := hb p0 (by simp)
 have b_p1 := hb p1 (by simp)
 have b_p2 := hb p2 (by simp)
 have b_p3 := hb p3 (by simp)
 have b_p4 := hb p4 (by simp)
 have b_p5 := hb p5 (by simp)
 have b_p6 := hb p6 (by simp)
 have b_q0 := hb q0 (by simp)
 have b_q1 := hb q1 (by simp)
 have b_q2 := hb q2 (by simp)
 have b_q3 := hb q3 (by simp)
 have b_q4 := hb q4 (by simp)
 have b_q5 := hb q5 (by simp)
 have b_q6 := hb q6 (by simp)
 have b_nr := hb nr (by simp)
 have b_wx := hb wx (by simp)
 have b_wy := hb wy (by simp)
 have b_wz := hb wz (by simp)
 have HPL : Hid _ := fun w' (h : Below w0.heap.size w0 w') => placed_any k1 r1 x1 y1 z1 (.slice o1 L1.length c1) L1 p0 p1 p2 p3 p4 p5 p6 w' b_k1 b_r1 b_x1 b_y1 b_z1 (hL1.below h) hF1 b_p0 b_p1 b_p2 b_p3 b_p4 b_p5 b_p6
 have HR2 : Hid _ := fun w' (h : Below w0.heap.size w0 w') => right_any k2 r2 x2 y2 z2 (.slice o2 L2.length c2) L2 w' b_k2 b_r2 b_x2 b_y2 b_z2 (hL2.below h) hF2
 have HQ1 : Hid _ := fun w' => right6_any p0 p1 p2 p3 p4 p5 p6 w' b_p0 b_p1 b_p2 b_p3 b_p4 b_p5 b_p6
 have HQ2 : Hid _ := fun w' => right6_any q0 q1 q2 q3 q4 q5 q6 w' b_q0 b_q1 b_q2 b_q3 b_q4 b_q5 b_q6
 have HNR : Hid _ := fun w' => npick_below nr 131072 w' b_nr (by decide) (by decide)
 have l_n := pickY_lo nr (n := 131072) (by decide)
 have u_n := pickY_hi nr (n := 131072) (by decide)
 generalize pickY nr 131072 = n1 at *
 obtain ⟨n, hn⟩ : ∃ m, 1 + n1 = m := ⟨_, rfl⟩
 have w_n : IntKind.i64.wrap (1 + n1) = n := by rw [hn, IntKind.wrap_i64]; omega
 have hnr : 1 <= n /\ n <= 131072 := by omega
 obtain ⟨n2, hn2⟩ : ∃ m, 2 * n = m := ⟨_, rfl⟩
 have w_n2 : IntKind.i64.wrap (2 * n) = n2 := by rw [hn2, IntKind.wrap_i64]; omega
 have HWx : Hid _ := fun w' => npick_below wx n2 w' b_wx (by omega) (by omega)
 have l_x := pickY_lo wx (n := n2) (by omega)
 have u_x := pickY_hi wx (n := n2) (by omega)
 generalize pickY wx n2 = gx at *
 obtain ⟨dx, hdx⟩ : ∃ m, gx - n = m := ⟨_, rfl⟩
 have w_dx : IntKind.i64.wrap (gx - n) = dx := by rw [hdx, IntKind.wrap_i64]; omega
 obtain ⟨mx, hmx⟩ : ∃ m, dx * 1048576 = m := ⟨_, rfl⟩
 have w_mx : IntKind.i64.wrap (dx * 1048576) = mx := by rw [hmx, IntKind.wrap_i64]; omega
 have hmrx : -137438953472 <= mx /\ mx <= 137438953472 := by omega
 have HWy : Hid _ := fun w' => npick_below wy n2 w' b_wy (by omega) (by omega)
 have l_y := pickY_lo wy (n := n2) (by omega)
 have u_y := pickY_hi wy (n := n2) (by omega)
 generalize pickY wy n2 = gy at *
 obtain ⟨dy, hdy⟩ : ∃ m, gy - n = m := ⟨_, rfl⟩
 have w_dy : IntKind.i64.wrap (gy - n) = dy := by rw [hdy, IntKind.wrap_i64]; omega
 obtain ⟨my, hmy⟩ : ∃ m, dy * 1048576 = m := ⟨_, rfl⟩
 have w_my : IntKind.i64.wrap (dy * 1048576) = my := by rw [hmy, IntKind.wrap_i64]; omega
 have hmry : -137438953472 <= my /\ my <= 137438953472 := by omega
 have HWz : Hid _ := fun w' => npick_below wz n2 w' b_wz (by omega) (by omega)
 have l_z := pickY_lo wz (n := n2) (by omega)
 have u_z := pickY_hi wz (n := n2) (by omega)
 generalize pickY wz n2 = gz at *
 obtain ⟨dz, hdz⟩ : ∃ m, gz - n = m := ⟨_, rfl⟩
 have w_dz : IntKind.i64.wrap (gz - n) = dz := by rw [hdz, IntKind.wrap_i64]; omega
 obtain ⟨mz, hmz⟩ : ∃ m, dz * 1048576 = m := ⟨_, rfl⟩
 have w_mz : IntKind.i64.wrap (dz * 1048576) = mz := by rw [hmz, IntKind.wrap_i64]; omega
 have hmrz : -137438953472 <= mz /\ mz <= 137438953472 := by omega
 clear hb b_k1 b_r1 b_x1 b_y1 b_z1 b_k2 b_r2 b_x2 b_y2 b_z2 b_p0 b_p1 b_p2 b_p3 b_p4 b_p5 b_p6 b_q0 b_q1 b_q2 b_q3 b_q4 b_q5 b_q6 b_nr b_wx b_wy b_wz hL1 hF1 hL2 hF2 hn hn2 l_n u_n l_x u_x hdx hmx l_y u_y hdy hmy l_z u_z hdz hmz
 obtain ⟨W1, hW1⟩ : ∃ W1, W1 = ((w0.alloc (.cells #[.int .i64 k1, .int .i64 r1, .int .i64 x1, .int .i64 y1, .int .i64 z1, .slice o1 L1.length c1, .int .i64 k2, .int .i64 r2, .int .i64 x2, .int .i64 y2, .int .i64 z2, .slice o2 L2.length c2, .int .i64 p0, .int .i64 p1, .int .i64 p2, .int .i64 p3, .int .i64 p4, .int .i64 p5, .int .i64 p6, .int .i64 q0, .int .i64 q1, .int .i64 q2, .int .i64 q3, .int .i64 q4, .int .i64 q5, .int .i64 q6, .int .i64 nr, .int .i64 wx, .int .i64 wy, .int .i64 wz] 33)).alloc (.cells #[.slice none 0 0, .slice none 0 0, .slice none 0 0, .int .i64 0] 35)).alloc (.cells #[.slice none 0 0, .slice none 0 0, .slice none 0 0, .int .i64 0] 35) := ⟨_, rfl⟩
 have CW : Hid (Cells W1 w0.heap.size [.int .i64 k1, .int .i64 r1, .int .i64 x1, .int .i64 y1, .int .i64 z1, .slice o1 L1.length c1, .int .i64 k2, .int .i64 r2, .int .i64 x2, .int .i64 y2, .int .i64 z2, .slice o2 L2.length c2, .int .i64 p0, .int .i64 p1, .int .i64 p2, .int .i64 p3, .int .i64 p4, .int .i64 p5, .int .i64 p6, .int .i64 q0, .int .i64 q1, .int .i64 q2, .int .i64 q3, .int .i64 q4, .int .i64 q5, .int .i64 q6, .int .i64 nr, .int .i64 wx, .int .i64 wy, .int .i64 wz]) := by show Cells _ _ _; rw [hW1]; exact ((Cells.new w0 [.int .i64 k1, .int .i64 r1, .int .i64 x1, .int .i64 y1, .int .i64 z1, .slice o1 L1.length c1, .int .i64 k2, .int .i64 r2, .int .i64 x2, .int .i64 y2, .int .i64 z2, .slice o2 L2.length c2, .int .i64 p0, .int .i64 p1, .int .i64 p2, .int .i64 p3, .int .i64 p4, .int .i64 p5, .int .i64 p6, .int .i64 q0, .int .i64 q1, .int .i64 q2, .int .i64 q3, .int .i64 q4, .int .i64 q5, .int .i64 q6, .int .i64 nr, .int .i64 wx, .int .i64 wy, .int .i64 wz] _).step (n_after _ _)).step (n_after _ _)
 have CR : Hid (Cells W1 (w0.heap.size + 1) [.slice none 0 0, .slice none 0 0, .slice none 0 0, .int .i64 0]) := by show Cells _ _ _; rw [hW1]; have h9 := (Cells.new (w0.alloc (.cells #[.int .i64 k1, .int .i64 r1, .int .i64 x1, .int .i64 y1, .int .i64 z1, .slice o1 L1.length c1, .int .i64 k2, .int .i64 r2, .int .i64 x2, .int .i64 y2, .int .i64 z2, .slice o2 L2.length c2, .int .i64 p0, .int .i64 p1, .int .i64 p2, .int .i64 p3, .int .i64 p4, .int .i64 p5, .int .i64 p6, .int .i64 q0, .int .i64 q1, .int .i64 q2, .int .i64 q3, .int .i64 q4, .int .i64 q5, .int .i64 q6, .int .i64 nr, .int .i64 wx, .int .i64 wy, .int .i64 wz] 33)) [.slice none 0 0, .slice none 0 0, .slice none 0 0, .int .i64 0] 35).step (n_after _ (.cells #[.slice none 0 0, .slice none 0 0, .slice none 0 0, .int .i64 0] 35)); rw [World.size_alloc] at h9; exact h9
 have CS : Hid (Cells W1 (w0.heap.size + 1 + 1) [.slice none 0 0, .slice none 0 0, .slice none 0 0, .int .i64 0]) := by show Cells _ _ _; rw [hW1]; have h9 := Cells.new ((w0.alloc (.cells #[.int .i64 k1, .int .i64 r1, .int .i64 x1, .int .i64 y1, .int .i64 z1, .slice o1 L1.length c1, .int .i64 k2, .int .i64 r2, .int .i64 x2, .int .i64 y2, .int .i64 z2, .slice o2 L2.length c2, .int .i64 p0, .int .i64 p1, .int .i64 p2, .int .i64 p3, .int .i64 p4, .int .i64 p5, .int .i64 p6, .int .i64 q0, .int .i64 q1, .int .i64 q2, .int .i64 q3, .int .i64 q4, .int .i64 q5, .int .i64 q6, .int .i64 nr, .int .i64 wx, .int .i64 wy, .int .i64 wz] 33)).alloc (.cells #[.slice none 0 0, .slice none 0 0, .slice none 0 0, .int .i64 0] 35)) [.slice none 0 0, .slice none 0 0, .slice none 0 0, .int .i64 0] 35; rw [World.size_alloc, World.size_alloc] at h9; exact h9
 have HB : Hid (Below w0.heap.size w0 W1) := by show Below _ _ _; rw [hW1]; exact b_step (b_step (n_after _ _) (n_after _ _)) (n_after _ _)
 obtain ⟨tb, htb⟩ : ∃ b, b = w0.heap.size := ⟨_, rfl⟩
 obtain ⟨ra, hra⟩ : ∃ b, b = w0.heap.size + 1 := ⟨_, rfl⟩
 obtain ⟨rb, hrb⟩ : ∃ b, b = w0.heap.size + 1 + 1 := ⟨_, rfl⟩
 rw [<- hrb] at CS
 rw [<- hra] at CR
 rw [<- htb] at CW
 have hro : w0.heap.size <= ra /\ w0.heap.size <= rb /\ ra ≠ rb /\ w0.heap.size <= tb := by omega
 have hrl : ra < W1.heap.size /\ rb < W1.heap.size := ⟨Cells.lt CR.out, Cells.lt CS.out⟩
 go_enter Tryz.func8, Tryz.ntmps8
 go_upto_region 1 with fail
 rw [<- hW1, <- hrb, <- hra, <- htb]
 clear hW1 htb hra hrb
 have x0 := (CW.out 0 _ rfl).1
 have x1 := (CW.out 1 _ rfl).1
 have x2 := (CW.out 2 _ rfl).1
 have x3 := (CW.out 3 _ rfl).1
 have x4 := (CW.out 4 _ rfl).1
 have x5 := (CW.out 5 _ rfl).1
 have x12 := (CW.out 12 _ rfl).1
 have x13 := (CW.out 13 _ rfl).1
 have x14 := (CW.out 14 _ rfl).1
 have x15 := (CW.out 15 _ rfl).1
 have x16 := (CW.out 16 _ rfl).1
 have x17 := (CW.out 17 _ rfl).1
 have x18 := (CW.out 18 _ rfl).1
 go_wp2_with (fail)
 refine Calls.mono (HPL.out _ HB.out) ?_
 rintro e V1 ⟨a, va1, va2, va3, rfl, hT, hMA, hRA⟩
 have NA : Hid _ := And.intro (own_far hT.out.rp hrl.1 (Ls := a.P)) (And.intro (own_far hT.out.ra hrl.1 (Ls := a.A)) (And.intro (own_far hT.out.re hrl.1 (Ls := a.E)) (And.intro (own_far hT.out.rp hrl.2 (Ls := a.P)) (And.intro (own_far hT.out.ra hrl.2 (Ls := a.A)) (own_far hT.out.re hrl.2 (Ls := a.E))))))
 have FA : Hid (farL w0.heap.size va1 a.P /\ farL w0.heap.size va2 a.A /\ farL w0.heap.size va3 a.E) := ⟨own_farL hT.out.rp HB.out.size, own_farL hT.out.ra HB.out.size, own_farL hT.out.re HB.out.size⟩
 have hb := hT.out.below
 obtain ⟨ao1, ac1, rfl⟩ := rowp_form hT.out.rp
 obtain ⟨ao2, ac2, rfl⟩ := rowp_form hT.out.ra
 obtain ⟨ao3, ac3, rfl⟩ := rowp_form hT.out.re
 have A1 : Hid _ := Lies.of_row hT.out.rp
 have A2 : Hid _ := Lies.of_row hT.out.ra
 have A3 : Hid _ := Lies.of_row hT.out.re
 have CW : Hid _ := Cells.step CW.out hb
 have CR : Hid _ := Cells.step CR.out hb
 have CS : Hid _ := Cells.step CS.out hb
 have HB : Hid _ := b_step HB.out hb
 have HMA : Hid _ := And.intro hMA hRA
 clear hb hT hMA hRA HPL x0 x1 x2 x3 x4 x5 x12 x13 x14 x15 x16 x17 x18
 obtain ⟨Pa, Aa, Ea, sa⟩ := a
 dsimp only at *
 obtain ⟨X1, hX1⟩ : ∃ V, V = V1.alloc (.cells #[.slice ao1 Pa.length ac1, .slice ao2 Aa.length ac2, .slice ao3 Ea.length ac3, .int .i64 sa] 35) := ⟨_, rfl⟩
 obtain ⟨ab, hab⟩ : ∃ b, b = V1.heap.size := ⟨_, rfl⟩
 have hal : ab ≠ ra /\ ab ≠ rb := by have i1 := Cells.lt CR.out; have i2 := Cells.lt CS.out; omega
 have hbx : Below V1.heap.size V1 X1 := by rw [hX1]; exact n_after _ _
 have CA : Hid (Cells X1 ab [.slice ao1 Pa.length ac1, .slice ao2 Aa.length ac2, .slice ao3 Ea.length ac3, .int .i64 sa]) := by show Cells _ _ _; rw [hX1, hab]; exact Cells.new _ _ _
 go_upto_region 2 with fail
 rw [<- hX1, <- hab]
 have CW : Hid _ := Cells.step CW.out hbx
 have CR : Hid _ := Cells.step CR.out hbx
 have CS : Hid _ := Cells.step CS.out hbx
 have A1 : Hid _ := A1.out.below hbx
 have A2 : Hid _ := A2.out.below hbx
 have A3 : Hid _ := A3.out.below hbx
 have HB : Hid _ := b_step HB.out hbx
 clear hX1 hab hbx
 have x6 := (CW.out 6 _ rfl).1
 have x7 := (CW.out 7 _ rfl).1
 have x8 := (CW.out 8 _ rfl).1
 have x9 := (CW.out 9 _ rfl).1
 have x10 := (CW.out 10 _ rfl).1
 have x11 := (CW.out 11 _ rfl).1
 go_wp2_with (fail)
 refine Calls.mono (HR2.out _ HB.out) ?_
 rintro e V2 ⟨sh, u, rfl, hrow, hgd, _⟩
 have hb := hrow.below
 have HC : Hid _ := rcore_any sh u V2 hrow.lies
 have CW : Hid _ := Cells.step CW.out hb
 have CR : Hid _ := Cells.step CR.out hb
 have CS : Hid _ := Cells.step CS.out hb
 have CA : Hid _ := Cells.step CA.out hb
 have A1 : Hid _ := A1.out.below hb
 have A2 : Hid _ := A2.out.below hb
 have A3 : Hid _ := A3.out.below hb
 have HB : Hid _ := b_step HB.out hb
 have HGD : Hid _ := hgd
 have hr3 : ra < V2.heap.size /\ rb < V2.heap.size := ⟨Cells.lt CR.out, Cells.lt CS.out⟩
 clear hb HR2 hrow hgd x6 x7 x8 x9 x10 x11
 unfold Sh.v at HC
 go_wp2_with (fail)
 refine Calls.mono HC.out ?_
 rintro e V3 ⟨vp, va, ve, _, hok⟩
 obtain ⟨rfl, h3⟩ := hok HGD.out.ok
 have hb := h3.below
 have CW : Hid _ := Cells.step CW.out hb
 have CR : Hid _ := Cells.step CR.out hb
 have CS : Hid _ := Cells.step CS.out hb
 have CA : Hid _ := Cells.step CA.out hb
 have A1 : Hid _ := A1.out.below hb
 have A2 : Hid _ := A2.out.below hb
 have A3 : Hid _ := A3.out.below hb
 have HB : Hid _ := b_step HB.out hb
 obtain ⟨co1, cc1, rfl⟩ := rowp_form h3.rp
 obtain ⟨co2, cc2, rfl⟩ := rowp_form h3.ra
 obtain ⟨co3, cc3, rfl⟩ := rowp_form h3.re
 have C1 : Hid _ := Lies.of_row h3.rp
 have C2 : Hid _ := Lies.of_row h3.ra
 have C3 : Hid _ := Lies.of_row h3.re
 clear hb h3 HC hok
 have HPn : Hid _ := gd_pts HGD.out
 have HPi : Hid _ := gd_in HGD.out
 have HAt : Hid (∀ p ∈ axesP sh, p ≠ Pt.O /\ p.short = p) := (gd_axes HGD.out).1
 have HEt : Hid (∀ p ∈ edgesP sh, p ≠ Pt.O /\ p.short = p) := (gd_edges HGD.out).1
 have HAl : Hid _ := gd_alen HGD.out
 have hPl : (ptsP sh).length < 1099511627776 := by have := gd_len HGD.out; omega
 have HMY : Hid (∀ t q P2 A2 E2, Came t q (ptsP sh) (axesP sh) (edgesP sh) P2 A2 E2 -> mayN ⟨P2, A2, E2, sh.radius⟩) := fun t q P2 A2 E2 h => came_near HGD.out h
 have HRR : Hid (1 <= sh.radius /\ sh.radius <= 16384) := HGD.out.r
 generalize ptsP sh = Ps at *
 generalize axesP sh = As at *
 generalize edgesP sh = Es at *
 generalize sh.radius = sr at *
 clear HGD
 obtain ⟨X2, hX2⟩ : ∃ V, V = V3.alloc (.cells #[.slice co1 Ps.length cc1, .slice co2 As.length cc2, .slice co3 Es.length cc3, .int .i64 sr] 35) := ⟨_, rfl⟩
 obtain ⟨cb, hcb⟩ : ∃ b, b = V3.heap.size := ⟨_, rfl⟩
 have hbx : Below V3.heap.size V3 X2 := by rw [hX2]; exact n_after _ _
 have CC : Hid (Cells X2 cb [.slice co1 Ps.length cc1, .slice co2 As.length cc2, .slice co3 Es.length cc3, .int .i64 sr]) := by show Cells _ _ _; rw [hX2, hcb]; exact Cells.new _ _ _
 go_upto_region 3 with fail
 rw [<- hX2, <- hcb]
 have CW : Hid _ := Cells.step CW.out hbx
 have CR : Hid _ := Cells.step CR.out hbx
 have CS : Hid _ := Cells.step CS.out hbx
 have CA : Hid _ := Cells.step CA.out hbx
 have A1 : Hid _ := A1.out.below hbx
 have A2 : Hid _ := A2.out.below hbx
 have A3 : Hid _ := A3.out.below hbx
 have C1 : Hid _ := C1.out.below hbx
 have C2 : Hid _ := C2.out.below hbx
 have C3 : Hid _ := C3.out.below hbx
 have HB : Hid _ := b_step HB.out hbx
 clear hX2 hcb hbx
 have x12 := (CW.out 12 _ rfl).1
 have x13 := (CW.out 13 _ rfl).1
 have x14 := (CW.out 14 _ rfl).1
 have x15 := (CW.out 15 _ rfl).1
 have x16 := (CW.out 16 _ rfl).1
 have x17 := (CW.out 17 _ rfl).1
 have x18 := (CW.out 18 _ rfl).1
 go_wp2_with (fail)
 refine Calls.mono (HQ1.out _) ?_
 rintro e V4 ⟨t1, qt1, rfl, ht1, _, hb⟩
 have CW : Hid _ := Cells.step CW.out hb
 have CR : Hid _ := Cells.step CR.out hb
 have CS : Hid _ := Cells.step CS.out hb
 have CA : Hid _ := Cells.step CA.out hb
 have CC : Hid _ := Cells.step CC.out hb
 have A1 : Hid _ := A1.out.below hb
 have A2 : Hid _ := A2.out.below hb
 have A3 : Hid _ := A3.out.below hb
 have C1 : Hid _ := C1.out.below hb
 have C2 : Hid _ := C2.out.below hb
 have C3 : Hid _ := C3.out.below hb
 have HB : Hid _ := b_step HB.out hb
 clear hb HQ1 x12 x13 x14 x15 x16 x17 x18
 obtain ⟨X3, hX3⟩ : ∃ V, V = V4.alloc (.cells #[.int .i64 t1.x, .int .i64 t1.y, .int .i64 t1.z, .int .i64 qt1.w, .int .i64 qt1.x, .int .i64 qt1.y, .int .i64 qt1.z] 69) := ⟨_, rfl⟩
 obtain ⟨pb, hpb⟩ : ∃ b, b = V4.heap.size := ⟨_, rfl⟩
 have hbx : Below V4.heap.size V4 X3 := by rw [hX3]; exact n_after _ _
 have CP : Hid (Cells X3 pb [.int .i64 t1.x, .int .i64 t1.y, .int .i64 t1.z, .int .i64 qt1.w, .int .i64 qt1.x, .int .i64 qt1.y, .int .i64 qt1.z]) := by show Cells _ _ _; rw [hX3, hpb]; exact Cells.new _ _ _
 unfold poseV
 go_upto_region 4 with fail
 rw [<- hX3, <- hpb]
 have CW : Hid _ := Cells.step CW.out hbx
 have CR : Hid _ := Cells.step CR.out hbx
 have CS : Hid _ := Cells.step CS.out hbx
 have CA : Hid _ := Cells.step CA.out hbx
 have CC : Hid _ := Cells.step CC.out hbx
 have A1 : Hid _ := A1.out.below hbx
 have A2 : Hid _ := A2.out.below hbx
 have A3 : Hid _ := A3.out.below hbx
 have C1 : Hid _ := C1.out.below hbx
 have C2 : Hid _ := C2.out.below hbx
 have C3 : Hid _ := C3.out.below hbx
 have HB : Hid _ := b_step HB.out hbx
 clear hX3 hpb hbx
 have x19 := (CW.out 19 _ rfl).1
 have x20 := (CW.out 20 _ rfl).1
 have x21 := (CW.out 21 _ rfl).1
 have x22 := (CW.out 22 _ rfl).1
 have x23 := (CW.out 23 _ rfl).1
 have x24 := (CW.out 24 _ rfl).1
 have x25 := (CW.out 25 _ rfl).1
 go_wp2_with (fail)
 refine Calls.mono (HQ2.out _) ?_
 rintro e V5 ⟨t2, qt2, rfl, ht2, hq2, hb⟩
 have CW : Hid _ := Cells.step CW.out hb
 have CR : Hid _ := Cells.step CR.out hb
 have CS : Hid _ := Cells.step CS.out hb
 have CA : Hid _ := Cells.step CA.out hb
 have CC : Hid _ := Cells.step CC.out hb
 have CP : Hid _ := Cells.step CP.out hb
 have A1 : Hid _ := A1.out.below hb
 have A2 : Hid _ := A2.out.below hb
 have A3 : Hid _ := A3.out.below hb
 have C1 : Hid _ := C1.out.below hb
 have C2 : Hid _ := C2.out.below hb
 have C3 : Hid _ := C3.out.below hb
 have HB : Hid _ := b_step HB.out hb
 have HQW : Hid _ := hq2
 clear hb HQ2 hq2 ht2 x19 x20 x21 x22 x23 x24 x25
 obtain ⟨X4, hX4⟩ : ∃ V, V = V5.alloc (.cells #[.int .i64 t2.x, .int .i64 t2.y, .int .i64 t2.z, .int .i64 qt2.w, .int .i64 qt2.x, .int .i64 qt2.y, .int .i64 qt2.z] 69) := ⟨_, rfl⟩
 obtain ⟨qb, hqb⟩ : ∃ b, b = V5.heap.size := ⟨_, rfl⟩
 have hbx : Below V5.heap.size V5 X4 := by rw [hX4]; exact n_after _ _
 have CQ : Hid (Cells X4 qb [.int .i64 t2.x, .int .i64 t2.y, .int .i64 t2.z, .int .i64 qt2.w, .int .i64 qt2.x, .int .i64 qt2.y, .int .i64 qt2.z]) := by show Cells _ _ _; rw [hX4, hqb]; exact Cells.new _ _ _
 have NQ : Hid _ := And.intro (A1.out.far (Nat.le_of_eq hqb.symm)) (And.intro (A2.out.far (Nat.le_of_eq hqb.symm)) (And.intro (A3.out.far (Nat.le_of_eq hqb.symm)) (And.intro (C1.out.far (Nat.le_of_eq hqb.symm)) (And.intro (C2.out.far (Nat.le_of_eq hqb.symm)) (C3.out.far (Nat.le_of_eq hqb.symm))))))
 have hqn : w0.heap.size <= qb /\ tb ≠ qb /\ ra ≠ qb /\ rb ≠ qb /\ ab ≠ qb /\ cb ≠ qb /\ pb ≠ qb := by
  have i1 := Cells.lt CW.out
  have i2 := Cells.lt CR.out
  have i3 := Cells.lt CS.out
  have i4 := Cells.lt CA.out
  have i5 := Cells.lt CC.out
  have i6 := Cells.lt CP.out
  have i7 := HB.out.size
  omega
 unfold poseV
 go_upto_region 5 with fail
 rw [<- hX4, <- hqb]
 have CW : Hid _ := Cells.step CW.out hbx
 have CR : Hid _ := Cells.step CR.out hbx
 have CS : Hid _ := Cells.step CS.out hbx
 have CA : Hid _ := Cells.step CA.out hbx
 have CC : Hid _ := Cells.step CC.out hbx
 have CP : Hid _ := Cells.step CP.out hbx
 have A1 : Hid _ := A1.out.below hbx
 have A2 : Hid _ := A2.out.below hbx
 have A3 : Hid _ := A3.out.below hbx
 have C1 : Hid _ := C1.out.below hbx
 have C2 : Hid _ := C2.out.below hbx
 have C3 : Hid _ := C3.out.below hbx
 have HB : Hid _ := b_step HB.out hbx
 clear hX4 hqb hbx
 have x26 := (CW.out 26 _ rfl).1
 go_wp2_with (fail)
 refine Calls.mono (HNR.out _) ?_
 rintro e V6 ⟨rfl, hb⟩
 have CW : Hid _ := Cells.step CW.out hb
 have CR : Hid _ := Cells.step CR.out hb
 have CS : Hid _ := Cells.step CS.out hb
 have CA : Hid _ := Cells.step CA.out hb
 have CC : Hid _ := Cells.step CC.out hb
 have CP : Hid _ := Cells.step CP.out hb
 have CQ : Hid _ := Cells.step CQ.out hb
 have A1 : Hid _ := A1.out.below hb
 have A2 : Hid _ := A2.out.below hb
 have A3 : Hid _ := A3.out.below hb
 have C1 : Hid _ := C1.out.below hb
 have C2 : Hid _ := C2.out.below hb
 have C3 : Hid _ := C3.out.below hb
 have HB : Hid _ := b_step HB.out hb
 clear hb HNR x26
 rw [Pt.inB_iff] at ht1
 obtain ⟨t1x, t1y, t1z⟩ := t1
 dsimp only at ht1 CP
 obtain ⟨sx, hsx⟩ : ∃ m, t1x + mx = m := ⟨_, rfl⟩
 have w_sx : IntKind.i64.wrap (t1x + mx) = sx := by rw [hsx, IntKind.wrap_i64]; omega
 obtain ⟨sy, hsy⟩ : ∃ m, t1y + my = m := ⟨_, rfl⟩
 have w_sy : IntKind.i64.wrap (t1y + my) = sy := by rw [hsy, IntKind.wrap_i64]; omega
 obtain ⟨sz, hsz⟩ : ∃ m, t1z + mz = m := ⟨_, rfl⟩
 have w_sz : IntKind.i64.wrap (t1z + mz) = sz := by rw [hsz, IntKind.wrap_i64]; omega
 have HTI : Hid ((⟨sx, sy, sz⟩ : Pt).inB 5497558138880 = true) := by show _ = _; rw [Pt.inB_iff]; dsimp only; omega
 clear ht1 hsx hsy hsz
 have x27 := (CW.out 27 _ rfl).1
 have x28 := (CW.out 28 _ rfl).1
 have x29 := (CW.out 29 _ rfl).1
 have u0 := (CP.out 0 _ rfl).1
 have u1 := (CP.out 1 _ rfl).1
 have u2 := (CP.out 2 _ rfl).1
 have v0 := (CQ.out 0 _ rfl).1
 have v1 := (CQ.out 1 _ rfl).1
 have v2 := (CQ.out 2 _ rfl).1
 have vf0 := (CQ.out 0 _ rfl).2
 have vf1 := (CQ.out 1 _ rfl).2
 have vf2 := (CQ.out 2 _ rfl).2
 go_upto_region 6 with fail
 go_cut [] from 34 to 74 (fun wx => ∃ w8 : World, wx = ((w8.setCell ⟨qb, 0, none⟩ (.int .i64 sx)).setCell ⟨qb, 1, none⟩ (.int .i64 sy)).setCell ⟨qb, 2, none⟩ (.int .i64 sz) /\ Hid (Below V6.heap.size V6 w8))
 case first =>
  clear CW CR CS CA CC CP CQ A1 A2 A3 C1 C2 C3 HB
  refine RV.region_by (fun j v w => match j with | 0 => v = .pointer (some ⟨pb, 0, none⟩) | 1 => v = .pointer (some ⟨pb, 0, none⟩) | 2 => v = .int .i64 (t1x) | 3 => v = .pointer (some ⟨tb, 27, none⟩) | 4 => v = .pointer (some ⟨tb, 27, none⟩) | 5 => v = .int .i64 (wx) | 6 => v = .int .i64 (n) | 7 => v = .int .i64 (n2) | 8 => v = .int .i64 (gx) | 9 => v = .int .i64 (n) | 10 => v = .int .i64 (dx) | 11 => v = .int .i64 (mx) | 12 => v = .int .i64 (sx) | 13 => v = .pointer (some ⟨pb, 0, none⟩) | 14 => v = .pointer (some ⟨pb, 1, none⟩) | 15 => v = .int .i64 (t1y) | 16 => v = .pointer (some ⟨tb, 27, none⟩) | 17 => v = .pointer (some ⟨tb, 28, none⟩) | 18 => v = .int .i64 (wy) | 19 => v = .int .i64 (n) | 20 => v = .int .i64 (n2) | 21 => v = .int .i64 (gy) | 22 => v = .int .i64 (n) | 23 => v = .int .i64 (dy) | 24 => v = .int .i64 (my) | 25 => v = .int .i64 (sy) | 26 => v = .pointer (some ⟨pb, 0, none⟩) | 27 => v = .pointer (some ⟨pb, 2, none⟩) | 28 => v = .int .i64 (t1z) | 29 => v = .pointer (some ⟨tb, 27, none⟩) | 30 => v = .pointer (some ⟨tb, 29, none⟩) | 31 => v = .int .i64 (wz) | 32 => v = .int .i64 (n) | 33 => v = .int .i64 (n2) | 34 => v = .int .i64 (gz) | 35 => v = .int .i64 (n) | 36 => v = .int .i64 (dz) | 37 => v = .int .i64 (mz) | 38 => v = .int .i64 (sz) | 39 => v = .agg #[.int .i64 (sx), .int .i64 (sy), .int .i64 (sz)] | 40 => v = .pointer (some ⟨qb, 0, none⟩) | 41 => True | _ => True) (fun γ L w9 => (L 41 = false /\ Below V6.heap.size V6 w9) \/ (L 41 = true /\ ∃ w, Below V6.heap.size V6 w /\ w9 = (((w.setCell ⟨qb, 0, none⟩ (.int .i64 (sx))).setCell ⟨qb, 1, none⟩ (.int .i64 (sy))).setCell ⟨qb, 2, none⟩ (.int .i64 (sz))))) (by kernel_rfl) (by kernel_rfl) (by kernel_rfl) (by kernel_rfl) ?_ ?_ ?_
  ·exact Or.inl ⟨rfl, (Below.refl _ V6).drew⟩
  ·generalize hD : dstOf _ = D
   generalize hWA : waitsFor _ = WA
   generalize hZ : Act.mk _ _ = Z
   refine RV.AllDo.name ?_
   intro R hR
   have d0 : D 0 = some 34 := by rw [<- hD]; rfl
   have d1 : D 1 = some 35 := by rw [<- hD]; rfl
   have d2 : D 2 = some 36 := by rw [<- hD]; rfl
   have d3 : D 3 = some 37 := by rw [<- hD]; rfl
   have d4 : D 4 = some 38 := by rw [<- hD]; rfl
   have d5 : D 5 = some 39 := by rw [<- hD]; rfl
   have d6 : D 6 = some 40 := by rw [<- hD]; rfl
   have d7 : D 7 = some 41 := by rw [<- hD]; rfl
   have d8 : D 8 = some 42 := by rw [<- hD]; rfl
   have d9 : D 9 = some 43 := by rw [<- hD]; rfl
   have d10 : D 10 = some 44 := by rw [<- hD]; rfl
   have d11 : D 11 = some 45 := by rw [<- hD]; rfl
   have d12 : D 12 = some 46 := by rw [<- hD]; rfl
   have d13 : D 13 = some 47 := by rw [<- hD]; rfl
   have d14 : D 14 = some 48 := by rw [<- hD]; rfl
   have d15 : D 15 = some 49 := by rw [<- hD]; rfl
   have d16 : D 16 = some 50 := by rw [<- hD]; rfl
   have d17 : D 17 = some 51 := by rw [<- hD]; rfl
   have d18 : D 18 = some 52 := by rw [<- hD]; rfl
   have d19 : D 19 = some 53 := by rw [<- hD]; rfl
   have d20 : D 20 = some 54 := by rw [<- hD]; rfl
   have d21 : D 21 = some 55 := by rw [<- hD]; rfl
   have d22 : D 22 = some 56 := by rw [<- hD]; rfl
   have d23 : D 23 = some 57 := by rw [<- hD]; rfl
   have d24 : D 24 = some 58 := by rw [<- hD]; rfl
   have d25 : D 25 = some 59 := by rw [<- hD]; rfl
   have d26 : D 26 = some 60 := by rw [<- hD]; rfl
   have d27 : D 27 = some 61 := by rw [<- hD]; rfl
   have d28 : D 28 = some 62 := by rw [<- hD]; rfl
   have d29 : D 29 = some 63 := by rw [<- hD]; rfl
   have d30 : D 30 = some 64 := by rw [<- hD]; rfl
   have d31 : D 31 = some 65 := by rw [<- hD]; rfl
   have d32 : D 32 = some 66 := by rw [<- hD]; rfl
   have d33 : D 33 = some 67 := by rw [<- hD]; rfl
   have d34 : D 34 = some 68 := by rw [<- hD]; rfl
   have d35 : D 35 = some 69 := by rw [<- hD]; rfl
   have d36 : D 36 = some 70 := by rw [<- hD]; rfl
   have d37 : D 37 = some 71 := by rw [<- hD]; rfl
   have d38 : D 38 = some 72 := by rw [<- hD]; rfl
   have d39 : D 39 = some 73 := by rw [<- hD]; rfl
   have d40 : D 40 = some 74 := by rw [<- hD]; rfl
   have r0 : ∀ v w, R 0 v w = (v = .pointer (some ⟨pb, 0, none⟩)) := fun v w => by rw [hR]; rfl
   have r1 : ∀ v w, R 1 v w = (v = .pointer (some ⟨pb, 0, none⟩)) := fun v w => by rw [hR]; rfl
   have r2 : ∀ v w, R 2 v w = (v = .int .i64 (t1x)) := fun v w => by rw [hR]; rfl
   have r3 : ∀ v w, R 3 v w = (v = .pointer (some ⟨tb, 27, none⟩)) := fun v w => by rw [hR]; rfl
   have r4 : ∀ v w, R 4 v w = (v = .pointer (some ⟨tb, 27, none⟩)) := fun v w => by rw [hR]; rfl
   have r5 : ∀ v w, R 5 v w = (v = .int .i64 (wx)) := fun v w => by rw [hR]; rfl
   have r6 : ∀ v w, R 6 v w = (v = .int .i64 (n)) := fun v w => by rw [hR]; rfl
   have r7 : ∀ v w, R 7 v w = (v = .int .i64 (n2)) := fun v w => by rw [hR]; rfl
   have r8 : ∀ v w, R 8 v w = (v = .int .i64 (gx)) := fun v w => by rw [hR]; rfl
   have r9 : ∀ v w, R 9 v w = (v = .int .i64 (n)) := fun v w => by rw [hR]; rfl
   have r10 : ∀ v w, R 10 v w = (v = .int .i64 (dx)) := fun v w => by rw [hR]; rfl
   have r11 : ∀ v w, R 11 v w = (v = .int .i64 (mx)) := fun v w => by rw [hR]; rfl
   have r12 : ∀ v w, R 12 v w = (v = .int .i64 (sx)) := fun v w => by rw [hR]; rfl
   have r13 : ∀ v w, R 13 v w = (v = .pointer (some ⟨pb, 0, none⟩)) := fun v w => by rw [hR]; rfl
   have r14 : ∀ v w, R 14 v w = (v = .pointer (some ⟨pb, 1, none⟩)) := fun v w => by rw [hR]; rfl
   have r15 : ∀ v w, R 15 v w = (v = .int .i64 (t1y)) := fun v w => by rw [hR]; rfl
   have r16 : ∀ v w, R 16 v w = (v = .pointer (some ⟨tb, 27, none⟩)) := fun v w => by rw [hR]; rfl
   have r17 : ∀ v w, R 17 v w = (v = .pointer (some ⟨tb, 28, none⟩)) := fun v w => by rw [hR]; rfl
   have r18 : ∀ v w, R 18 v w = (v = .int .i64 (wy)) := fun v w => by rw [hR]; rfl
   have r19 : ∀ v w, R 19 v w = (v = .int .i64 (n)) := fun v w => by rw [hR]; rfl
   have r20 : ∀ v w, R 20 v w = (v = .int .i64 (n2)) := fun v w => by rw [hR]; rfl
   have r21 : ∀ v w, R 21 v w = (v = .int .i64 (gy)) := fun v w => by rw [hR]; rfl
   have r22 : ∀ v w, R 22 v w = (v = .int .i64 (n)) := fun v w => by rw [hR]; rfl
   have r23 : ∀ v w, R 23 v w = (v = .int .i64 (dy)) := fun v w => by rw [hR]; rfl
   have r24 : ∀ v w, R 24 v w = (v = .int .i64 (my)) := fun v w => by rw [hR]; rfl
   have r25 : ∀ v w, R 25 v w = (v = .int .i64 (sy)) := fun v w => by rw [hR]; rfl
   have r26 : ∀ v w, R 26 v w = (v = .pointer (some ⟨pb, 0, none⟩)) := fun v w => by rw [hR]; rfl
   have r27 : ∀ v w, R 27 v w = (v = .pointer (some ⟨pb, 2, none⟩)) := fun v w => by rw [hR]; rfl
   have r28 : ∀ v w, R 28 v w = (v = .int .i64 (t1z)) := fun v w => by rw [hR]; rfl
   have r29 : ∀ v w, R 29 v w = (v = .pointer (some ⟨tb, 27, none⟩)) := fun v w => by rw [hR]; rfl
   have r30 : ∀ v w, R 30 v w = (v = .pointer (some ⟨tb, 29, none⟩)) := fun v w => by rw [hR]; rfl
   have r31 : ∀ v w, R 31 v w = (v = .int .i64 (wz)) := fun v w => by rw [hR]; rfl
   have r32 : ∀ v w, R 32 v w = (v = .int .i64 (n)) := fun v w => by rw [hR]; rfl
   have r33 : ∀ v w, R 33 v w = (v = .int .i64 (n2)) := fun v w => by rw [hR]; rfl
   have r34 : ∀ v w, R 34 v w = (v = .int .i64 (gz)) := fun v w => by rw [hR]; rfl
   have r35 : ∀ v w, R 35 v w = (v = .int .i64 (n)) := fun v w => by rw [hR]; rfl
   have r36 : ∀ v w, R 36 v w = (v = .int .i64 (dz)) := fun v w => by rw [hR]; rfl
   have r37 : ∀ v w, R 37 v w = (v = .int .i64 (mz)) := fun v w => by rw [hR]; rfl
   have r38 : ∀ v w, R 38 v w = (v = .int .i64 (sz)) := fun v w => by rw [hR]; rfl
   have r39 : ∀ v w, R 39 v w = (v = .agg #[.int .i64 (sx), .int .i64 (sy), .int .i64 (sz)]) := fun v w => by rw [hR]; rfl
   have r40 : ∀ v w, R 40 v w = (v = .pointer (some ⟨qb, 0, none⟩)) := fun v w => by rw [hR]; rfl
   have r41 : ∀ v w, R 41 v w = (True) := fun v w => by rw [hR]; rfl
   have F1_ : ∀ j, D j ≠ some 1 := by rw [<- hD]; exact RV.dst_free (by kernel_rfl)
   have Z1_ : Z.tmps[1]? = some (.pointer (some ⟨tb, 0, none⟩)) := by rw [<- hZ]; rfl
   have F7_ : ∀ j, D j ≠ some 7 := by rw [<- hD]; exact RV.dst_free (by kernel_rfl)
   have Z7_ : Z.tmps[7]? = some (.pointer (some ⟨pb, 0, none⟩)) := by rw [<- hZ]; rfl
   have F8_ : ∀ j, D j ≠ some 8 := by rw [<- hD]; exact RV.dst_free (by kernel_rfl)
   have Z8_ : Z.tmps[8]? = some (.pointer (some ⟨qb, 0, none⟩)) := by rw [<- hZ]; rfl
   have F9_ : ∀ j, D j ≠ some 9 := by rw [<- hD]; exact RV.dst_free (by kernel_rfl)
   have Z9_ : Z.tmps[9]? = some (.int .i64 (n)) := by rw [<- hZ]; rfl
   have K : ∀ j v w w', R j v w -> R j v w' := by rw [hR]; intro j v w w' h; exact h
   have A_41_2 : WA 41 2 := by rw [<- hWA]; exact ⟨_, rfl, ⟨2, .phase⟩, by simp, rfl, rfl⟩
   have A_41_5 : WA 41 5 := by rw [<- hWA]; exact ⟨_, rfl, ⟨5, .phase⟩, by simp, rfl, rfl⟩
   have A_41_8 : WA 41 8 := by rw [<- hWA]; exact ⟨_, rfl, ⟨8, .phase⟩, by simp, rfl, rfl⟩
   have A_41_15 : WA 41 15 := by rw [<- hWA]; exact ⟨_, rfl, ⟨15, .phase⟩, by simp, rfl, rfl⟩
   have A_41_18 : WA 41 18 := by rw [<- hWA]; exact ⟨_, rfl, ⟨18, .phase⟩, by simp, rfl, rfl⟩
   have A_41_21 : WA 41 21 := by rw [<- hWA]; exact ⟨_, rfl, ⟨21, .phase⟩, by simp, rfl, rfl⟩
   have A_41_28 : WA 41 28 := by rw [<- hWA]; exact ⟨_, rfl, ⟨28, .phase⟩, by simp, rfl, rfl⟩
   have A_41_31 : WA 41 31 := by rw [<- hWA]; exact ⟨_, rfl, ⟨31, .phase⟩, by simp, rfl, rfl⟩
   have A_41_34 : WA 41 34 := by rw [<- hWA]; exact ⟨_, rfl, ⟨34, .phase⟩, by simp, rfl, rfl⟩
   clear hD hWA hZ hR
   refine RV.cc 0 (RV.dp (fun γ v L w hl h => by rw [RV.mn (L := L) (i := 0) (j := 41) (by decide)]; exact h) (fun γ L a w hH hl hA => by have e0 := ((hH.rest 7 F7_).trans Z7_); exact ⟨.pointer (some ⟨pb, 0, none⟩), by simp [execOp, go_sem, e0], (r0 _ _).mpr rfl⟩)) ?_
   refine RV.cc 1 (RV.dp (fun γ v L w hl h => by rw [RV.mn (L := L) (i := 1) (j := 41) (by decide)]; exact h) (fun γ L a w hH hl hA => by have e0 := hH.got d0 r0 (hA ⟨0, .data⟩ (by simp) rfl); exact ⟨.pointer (some ⟨pb, 0, none⟩), by simp [execOp, go_sem, e0], (r1 _ _).mpr rfl⟩)) ?_
   refine RV.cc 2 (RV.dp (fun γ v L w hl h => by rw [RV.mn (L := L) (i := 2) (j := 41) (by decide)]; exact h) (fun γ L a w hH hl hA => by have e0 := hH.got d1 r1 (hA ⟨1, .data⟩ (by simp) rfl); have hB9 := early9 hH.glob (RV.ny hH A_41_2 hl); have z0 := c_after hB9 u0; exact ⟨.int .i64 (t1x), by simp [execOp, go_sem, e0, z0], (r2 _ _).mpr rfl⟩)) ?_
   refine RV.cc 3 (RV.dp (fun γ v L w hl h => by rw [RV.mn (L := L) (i := 3) (j := 41) (by decide)]; exact h) (fun γ L a w hH hl hA => by have e0 := ((hH.rest 1 F1_).trans Z1_); exact ⟨.pointer (some ⟨tb, 27, none⟩), by simp [execOp, go_sem, e0], (r3 _ _).mpr rfl⟩)) ?_
   refine RV.cc 4 (RV.dp (fun γ v L w hl h => by rw [RV.mn (L := L) (i := 4) (j := 41) (by decide)]; exact h) (fun γ L a w hH hl hA => by have e0 := hH.got d3 r3 (hA ⟨3, .data⟩ (by simp) rfl); exact ⟨.pointer (some ⟨tb, 27, none⟩), by simp [execOp, go_sem, e0], (r4 _ _).mpr rfl⟩)) ?_
   refine RV.cc 5 (RV.dp (fun γ v L w hl h => by rw [RV.mn (L := L) (i := 5) (j := 41) (by decide)]; exact h) (fun γ L a w hH hl hA => by have e0 := hH.got d4 r4 (hA ⟨4, .data⟩ (by simp) rfl); have hB9 := early9 hH.glob (RV.ny hH A_41_5 hl); have z0 := c_after hB9 x27; exact ⟨.int .i64 (wx), by simp [execOp, go_sem, e0, z0], (r5 _ _).mpr rfl⟩)) ?_
   refine RV.cc 6 (RV.dp (fun γ v L w hl h => by rw [RV.mn (L := L) (i := 6) (j := 41) (by decide)]; exact h) (fun γ L a w hH hl hA => by have e0 := ((hH.rest 9 F9_).trans Z9_); exact ⟨.int .i64 (n), by simp [execOp, go_sem, e0], (r6 _ _).mpr rfl⟩)) ?_
   refine RV.cc 7 (RV.dp (fun γ v L w hl h => by rw [RV.mn (L := L) (i := 7) (j := 41) (by decide)]; exact h) (fun γ L a w hH hl hA => by have e0 := hH.got d6 r6 (hA ⟨6, .data⟩ (by simp) rfl); exact ⟨.int .i64 (n2), by simp [execOp, go_sem, e0, w_n2], (r7 _ _).mpr rfl⟩)) ?_
   refine RV.cc 8 (RV.dc (fun γ L a w hH hl hA => by have e0 := hH.got d5 r5 (hA ⟨5, .data⟩ (by simp) rfl); have e1 := hH.got d7 r7 (hA ⟨7, .data⟩ (by simp) rfl); have hB9 := early9 hH.glob (RV.ny hH A_41_8 hl); exact ⟨25, #[.int .i64 (wx), .int .i64 (n2)], by simp [go_sem, e0, e1], Calls.mono (HWx.out w) (by rintro e w2 ⟨rfl, hb⟩; exact ⟨_, rfl, (r8 _ _).mpr rfl, fun j v _ h => K j v _ _ h, Or.inl ⟨by rw [RV.mn (L := L) (i := 8) (j := 41) (by decide)]; exact RV.ny hH A_41_8 hl, hB9.trans (hb.mono hB9.size)⟩⟩)⟩)) ?_
   refine RV.cc 9 (RV.dp (fun γ v L w hl h => by rw [RV.mn (L := L) (i := 9) (j := 41) (by decide)]; exact h) (fun γ L a w hH hl hA => by have e0 := ((hH.rest 9 F9_).trans Z9_); exact ⟨.int .i64 (n), by simp [execOp, go_sem, e0], (r9 _ _).mpr rfl⟩)) ?_
   refine RV.cc 10 (RV.dp (fun γ v L w hl h => by rw [RV.mn (L := L) (i := 10) (j := 41) (by decide)]; exact h) (fun γ L a w hH hl hA => by have e0 := hH.got d8 r8 (hA ⟨8, .data⟩ (by simp) rfl); have e1 := hH.got d9 r9 (hA ⟨9, .data⟩ (by simp) rfl); exact ⟨.int .i64 (dx), by simp [execOp, go_sem, e0, e1, w_dx], (r10 _ _).mpr rfl⟩)) ?_
   refine RV.cc 11 (RV.dp (fun γ v L w hl h => by rw [RV.mn (L := L) (i := 11) (j := 41) (by decide)]; exact h) (fun γ L a w hH hl hA => by have e0 := hH.got d10 r10 (hA ⟨10, .data⟩ (by simp) rfl); exact ⟨.int .i64 (mx), by simp [execOp, go_sem, e0, w_mx], (r11 _ _).mpr rfl⟩)) ?_
   refine RV.cc 12 (RV.dp (fun γ v L w hl h => by rw [RV.mn (L := L) (i := 12) (j := 41) (by decide)]; exact h) (fun γ L a w hH hl hA => by have e0 := hH.got d2 r2 (hA ⟨2, .data⟩ (by simp) rfl); have e1 := hH.got d11 r11 (hA ⟨11, .data⟩ (by simp) rfl); exact ⟨.int .i64 (sx), by simp [execOp, go_sem, e0, e1, w_sx], (r12 _ _).mpr rfl⟩)) ?_
   refine RV.cc 13 (RV.dp (fun γ v L w hl h => by rw [RV.mn (L := L) (i := 13) (j := 41) (by decide)]; exact h) (fun γ L a w hH hl hA => by have e0 := ((hH.rest 7 F7_).trans Z7_); exact ⟨.pointer (some ⟨pb, 0, none⟩), by simp [execOp, go_sem, e0], (r13 _ _).mpr rfl⟩)) ?_
   refine RV.cc 14 (RV.dp (fun γ v L w hl h => by rw [RV.mn (L := L) (i := 14) (j := 41) (by decide)]; exact h) (fun γ L a w hH hl hA => by have e0 := hH.got d13 r13 (hA ⟨13, .data⟩ (by simp) rfl); exact ⟨.pointer (some ⟨pb, 1, none⟩), by simp [execOp, go_sem, e0], (r14 _ _).mpr rfl⟩)) ?_
   refine RV.cc 15 (RV.dp (fun γ v L w hl h => by rw [RV.mn (L := L) (i := 15) (j := 41) (by decide)]; exact h) (fun γ L a w hH hl hA => by have e0 := hH.got d14 r14 (hA ⟨14, .data⟩ (by simp) rfl); have hB9 := early9 hH.glob (RV.ny hH A_41_15 hl); have z0 := c_after hB9 u1; exact ⟨.int .i64 (t1y), by simp [execOp, go_sem, e0, z0], (r15 _ _).mpr rfl⟩)) ?_
   refine RV.cc 16 (RV.dp (fun γ v L w hl h => by rw [RV.mn (L := L) (i := 16) (j := 41) (by decide)]; exact h) (fun γ L a w hH hl hA => by have e0 := ((hH.rest 1 F1_).trans Z1_); exact ⟨.pointer (some ⟨tb, 27, none⟩), by simp [execOp, go_sem, e0], (r16 _ _).mpr rfl⟩)) ?_
   refine RV.cc 17 (RV.dp (fun γ v L w hl h => by rw [RV.mn (L := L) (i := 17) (j := 41) (by decide)]; exact h) (fun γ L a w hH hl hA => by have e0 := hH.got d16 r16 (hA ⟨16, .data⟩ (by simp) rfl); exact ⟨.pointer (some ⟨tb, 28, none⟩), by simp [execOp, go_sem, e0], (r17 _ _).mpr rfl⟩)) ?_
   refine RV.cc 18 (RV.dp (fun γ v L w hl h => by rw [RV.mn (L := L) (i := 18) (j := 41) (by decide)]; exact h) (fun γ L a w hH hl hA => by have e0 := hH.got d17 r17 (hA ⟨17, .data⟩ (by simp) rfl); have hB9 := early9 hH.glob (RV.ny hH A_41_18 hl); have z0 := c_after hB9 x28; exact ⟨.int .i64 (wy), by simp [execOp, go_sem, e0, z0], (r18 _ _).mpr rfl⟩)) ?_
   refine RV.cc 19 (RV.dp (fun γ v L w hl h => by rw [RV.mn (L := L) (i := 19) (j := 41) (by decide)]; exact h) (fun γ L a w hH hl hA => by have e0 := ((hH.rest 9 F9_).trans Z9_); exact ⟨.int .i64 (n), by simp [execOp, go_sem, e0], (r19 _ _).mpr rfl⟩)) ?_
   refine RV.cc 20 (RV.dp (fun γ v L w hl h => by rw [RV.mn (L := L) (i := 20) (j := 41) (by decide)]; exact h) (fun γ L a w hH hl hA => by have e0 := hH.got d19 r19 (hA ⟨19, .data⟩ (by simp) rfl); exact ⟨.int .i64 (n2), by simp [execOp, go_sem, e0, w_n2], (r20 _ _).mpr rfl⟩)) ?_
   refine RV.cc 21 (RV.dc (fun γ L a w hH hl hA => by have e0 := hH.got d18 r18 (hA ⟨18, .data⟩ (by simp) rfl); have e1 := hH.got d20 r20 (hA ⟨20, .data⟩ (by simp) rfl); have hB9 := early9 hH.glob (RV.ny hH A_41_21 hl); exact ⟨25, #[.int .i64 (wy), .int .i64 (n2)], by simp [go_sem, e0, e1], Calls.mono (HWy.out w) (by rintro e w2 ⟨rfl, hb⟩; exact ⟨_, rfl, (r21 _ _).mpr rfl, fun j v _ h => K j v _ _ h, Or.inl ⟨by rw [RV.mn (L := L) (i := 21) (j := 41) (by decide)]; exact RV.ny hH A_41_21 hl, hB9.trans (hb.mono hB9.size)⟩⟩)⟩)) ?_
   refine RV.cc 22 (RV.dp (fun γ v L w hl h => by rw [RV.mn (L := L) (i := 22) (j := 41) (by decide)]; exact h) (fun γ L a w hH hl hA => by have e0 := ((hH.rest 9 F9_).trans Z9_); exact ⟨.int .i64 (n), by simp [execOp, go_sem, e0], (r22 _ _).mpr rfl⟩)) ?_
   refine RV.cc 23 (RV.dp (fun γ v L w hl h => by rw [RV.mn (L := L) (i := 23) (j := 41) (by decide)]; exact h) (fun γ L a w hH hl hA => by have e0 := hH.got d21 r21 (hA ⟨21, .data⟩ (by simp) rfl); have e1 := hH.got d22 r22 (hA ⟨22, .data⟩ (by simp) rfl); exact ⟨.int .i64 (dy), by simp [execOp, go_sem, e0, e1, w_dy], (r23 _ _).mpr rfl⟩)) ?_
   refine RV.cc 24 (RV.dp (fun γ v L w hl h => by rw [RV.mn (L := L) (i := 24) (j := 41) (by decide)]; exact h) (fun γ L a w hH hl hA => by have e0 := hH.got d23 r23 (hA ⟨23, .data⟩ (by simp) rfl); exact ⟨.int .i64 (my), by simp [execOp, go_sem, e0, w_my], (r24 _ _).mpr rfl⟩)) ?_
   refine RV.cc 25 (RV.dp (fun γ v L w hl h => by rw [RV.mn (L := L) (i := 25) (j := 41) (by decide)]; exact h) (fun γ L a w hH hl hA => by have e0 := hH.got d15 r15 (hA ⟨15, .data⟩ (by simp) rfl); have e1 := hH.got d24 r24 (hA ⟨24, .data⟩ (by simp) rfl); exact ⟨.int .i64 (sy), by simp [execOp, go_sem, e0, e1, w_sy], (r25 _ _).mpr rfl⟩)) ?_
   refine RV.cc 26 (RV.dp (fun γ v L w hl h => by rw [RV.mn (L := L) (i := 26) (j := 41) (by decide)]; exact h) (fun γ L a w hH hl hA => by have e0 := ((hH.rest 7 F7_).trans Z7_); exact ⟨.pointer (some ⟨pb, 0, none⟩), by simp [execOp, go_sem, e0], (r26 _ _).mpr rfl⟩)) ?_
   refine RV.cc 27 (RV.dp (fun γ v L w hl h => by rw [RV.mn (L := L) (i := 27) (j := 41) (by decide)]; exact h) (fun γ L a w hH hl hA => by have e0 := hH.got d26 r26 (hA ⟨26, .data⟩ (by simp) rfl); exact ⟨.pointer (some ⟨pb, 2, none⟩), by simp [execOp, go_sem, e0], (r27 _ _).mpr rfl⟩)) ?_
   refine RV.cc 28 (RV.dp (fun γ v L w hl h => by rw [RV.mn (L := L) (i := 28) (j := 41) (by decide)]; exact h) (fun γ L a w hH hl hA => by have e0 := hH.got d27 r27 (hA ⟨27, .data⟩ (by simp) rfl); have hB9 := early9 hH.glob (RV.ny hH A_41_28 hl); have z0 := c_after hB9 u2; exact ⟨.int .i64 (t1z), by simp [execOp, go_sem, e0, z0], (r28 _ _).mpr rfl⟩)) ?_
   refine RV.cc 29 (RV.dp (fun γ v L w hl h => by rw [RV.mn (L := L) (i := 29) (j := 41) (by decide)]; exact h) (fun γ L a w hH hl hA => by have e0 := ((hH.rest 1 F1_).trans Z1_); exact ⟨.pointer (some ⟨tb, 27, none⟩), by simp [execOp, go_sem, e0], (r29 _ _).mpr rfl⟩)) ?_
   refine RV.cc 30 (RV.dp (fun γ v L w hl h => by rw [RV.mn (L := L) (i := 30) (j := 41) (by decide)]; exact h) (fun γ L a w hH hl hA => by have e0 := hH.got d29 r29 (hA ⟨29, .data⟩ (by simp) rfl); exact ⟨.pointer (some ⟨tb, 29, none⟩), by simp [execOp, go_sem, e0], (r30 _ _).mpr rfl⟩)) ?_
   refine RV.cc 31 (RV.dp (fun γ v L w hl h => by rw [RV.mn (L := L) (i := 31) (j := 41) (by decide)]; exact h) (fun γ L a w hH hl hA => by have e0 := hH.got d30 r30 (hA ⟨30, .data⟩ (by simp) rfl); have hB9 := early9 hH.glob (RV.ny hH A_41_31 hl); have z0 := c_after hB9 x29; exact ⟨.int .i64 (wz), by simp [execOp, go_sem, e0, z0], (r31 _ _).mpr rfl⟩)) ?_
   refine RV.cc 32 (RV.dp (fun γ v L w hl h => by rw [RV.mn (L := L) (i := 32) (j := 41) (by decide)]; exact h) (fun γ L a w hH hl hA => by have e0 := ((hH.rest 9 F9_).trans Z9_); exact ⟨.int .i64 (n), by simp [execOp, go_sem, e0], (r32 _ _).mpr rfl⟩)) ?_
   refine RV.cc 33 (RV.dp (fun γ v L w hl h => by rw [RV.mn (L := L) (i := 33) (j := 41) (by decide)]; exact h) (fun γ L a w hH hl hA => by have e0 := hH.got d32 r32 (hA ⟨32, .data⟩ (by simp) rfl); exact ⟨.int .i64 (n2), by simp [execOp, go_sem, e0, w_n2], (r33 _ _).mpr rfl⟩)) ?_
   refine RV.cc 34 (RV.dc (fun γ L a w hH hl hA => by have e0 := hH.got d31 r31 (hA ⟨31, .data⟩ (by simp) rfl); have e1 := hH.got d33 r33 (hA ⟨33, .data⟩ (by simp) rfl); have hB9 := early9 hH.glob (RV.ny hH A_41_34 hl); exact ⟨25, #[.int .i64 (wz), .int .i64 (n2)], by simp [go_sem, e0, e1], Calls.mono (HWz.out w) (by rintro e w2 ⟨rfl, hb⟩; exact ⟨_, rfl, (r34 _ _).mpr rfl, fun j v _ h => K j v _ _ h, Or.inl ⟨by rw [RV.mn (L := L) (i := 34) (j := 41) (by decide)]; exact RV.ny hH A_41_34 hl, hB9.trans (hb.mono hB9.size)⟩⟩)⟩)) ?_
   refine RV.cc 35 (RV.dp (fun γ v L w hl h => by rw [RV.mn (L := L) (i := 35) (j := 41) (by decide)]; exact h) (fun γ L a w hH hl hA => by have e0 := ((hH.rest 9 F9_).trans Z9_); exact ⟨.int .i64 (n), by simp [execOp, go_sem, e0], (r35 _ _).mpr rfl⟩)) ?_
   refine RV.cc 36 (RV.dp (fun γ v L w hl h => by rw [RV.mn (L := L) (i := 36) (j := 41) (by decide)]; exact h) (fun γ L a w hH hl hA => by have e0 := hH.got d34 r34 (hA ⟨34, .data⟩ (by simp) rfl); have e1 := hH.got d35 r35 (hA ⟨35, .data⟩ (by simp) rfl); exact ⟨.int .i64 (dz), by simp [execOp, go_sem, e0, e1, w_dz], (r36 _ _).mpr rfl⟩)) ?_
   refine RV.cc 37 (RV.dp (fun γ v L w hl h => by rw [RV.mn (L := L) (i := 37) (j := 41) (by decide)]; exact h) (fun γ L a w hH hl hA => by have e0 := hH.got d36 r36 (hA ⟨36, .data⟩ (by simp) rfl); exact ⟨.int .i64 (mz), by simp [execOp, go_sem, e0, w_mz], (r37 _ _).mpr rfl⟩)) ?_
   refine RV.cc 38 (RV.dp (fun γ v L w hl h => by rw [RV.mn (L := L) (i := 38) (j := 41) (by decide)]; exact h) (fun γ L a w hH hl hA => by have e0 := hH.got d28 r28 (hA ⟨28, .data⟩ (by simp) rfl); have e1 := hH.got d37 r37 (hA ⟨37, .data⟩ (by simp) rfl); exact ⟨.int .i64 (sz), by simp [execOp, go_sem, e0, e1, w_sz], (r38 _ _).mpr rfl⟩)) ?_
   refine RV.cc 39 (RV.dp (fun γ v L w hl h => by rw [RV.mn (L := L) (i := 39) (j := 41) (by decide)]; exact h) (fun γ L a w hH hl hA => by have e0 := hH.got d12 r12 (hA ⟨12, .data⟩ (by simp) rfl); have e1 := hH.got d25 r25 (hA ⟨25, .data⟩ (by simp) rfl); have e2 := hH.got d38 r38 (hA ⟨38, .data⟩ (by simp) rfl); exact ⟨.agg #[.int .i64 (sx), .int .i64 (sy), .int .i64 (sz)], by simp [execOp, go_sem, e0, e1, e2], (r39 _ _).mpr rfl⟩)) ?_
   refine RV.cc 40 (RV.dp (fun γ v L w hl h => by rw [RV.mn (L := L) (i := 40) (j := 41) (by decide)]; exact h) (fun γ L a w hH hl hA => by have e0 := ((hH.rest 8 F8_).trans Z8_); exact ⟨.pointer (some ⟨qb, 0, none⟩), by simp [execOp, go_sem, e0], (r40 _ _).mpr rfl⟩)) ?_
   refine RV.cc 41 (RV.does_store (fun γ L a w hH hl hA => by have e0 := hH.got d39 r39 (hA ⟨39, .data⟩ (by simp) rfl); have e1 := hH.got d40 r40 (hA ⟨40, .data⟩ (by simp) rfl); have hB9 := early9 hH.glob hl; have z0 := c_after hB9 v0; have zf0 := f_after hB9 v0 vf0; have z1 := c_after hB9 v1; have zf1 := f_after hB9 v1 vf1; have z2 := c_after hB9 v2; have zf2 := f_after hB9 v2 vf2; exact ⟨(((w.setCell ⟨qb, 0, none⟩ (.int .i64 (sx))).setCell ⟨qb, 1, none⟩ (.int .i64 (sy))).setCell ⟨qb, 2, none⟩ (.int .i64 (sz))), by simp [execOp, go_sem, e0, e1, z0, zf0, z1, zf1, z2, zf2], (r41 _ _).mpr trivial, fun j v _ h => K j v _ _ h, Or.inr ⟨RV.more_self, w, hB9, rfl⟩⟩)) ?_
   exact RV.AllDo.nil
  ·intro γ a5 w5 L9 hL hLo hH
   have ha := RV.held_act hH hL (by kernel_rfl) (by kernel_rfl)
   obtain ⟨w8, hb8, rfl⟩ := late9 hH.glob (hL 41 (by decide))
   have y0 : γ 0 = .pointer (some ⟨pb, 0, none⟩) := hH.holds 0 (hL 0 (by decide))
   have y1 : γ 1 = .pointer (some ⟨pb, 0, none⟩) := hH.holds 1 (hL 1 (by decide))
   have y2 : γ 2 = .int .i64 (t1x) := hH.holds 2 (hL 2 (by decide))
   have y3 : γ 3 = .pointer (some ⟨tb, 27, none⟩) := hH.holds 3 (hL 3 (by decide))
   have y4 : γ 4 = .pointer (some ⟨tb, 27, none⟩) := hH.holds 4 (hL 4 (by decide))
   have y5 : γ 5 = .int .i64 (wx) := hH.holds 5 (hL 5 (by decide))
   have y6 : γ 6 = .int .i64 (n) := hH.holds 6 (hL 6 (by decide))
   have y7 : γ 7 = .int .i64 (n2) := hH.holds 7 (hL 7 (by decide))
   have y8 : γ 8 = .int .i64 (gx) := hH.holds 8 (hL 8 (by decide))
   have y9 : γ 9 = .int .i64 (n) := hH.holds 9 (hL 9 (by decide))
   have y10 : γ 10 = .int .i64 (dx) := hH.holds 10 (hL 10 (by decide))
   have y11 : γ 11 = .int .i64 (mx) := hH.holds 11 (hL 11 (by decide))
   have y12 : γ 12 = .int .i64 (sx) := hH.holds 12 (hL 12 (by decide))
   have y13 : γ 13 = .pointer (some ⟨pb, 0, none⟩) := hH.holds 13 (hL 13 (by decide))
   have y14 : γ 14 = .pointer (some ⟨pb, 1, none⟩) := hH.holds 14 (hL 14 (by decide))
   have y15 : γ 15 = .int .i64 (t1y) := hH.holds 15 (hL 15 (by decide))
   have y16 : γ 16 = .pointer (some ⟨tb, 27, none⟩) := hH.holds 16 (hL 16 (by decide))
   have y17 : γ 17 = .pointer (some ⟨tb, 28, none⟩) := hH.holds 17 (hL 17 (by decide))
   have y18 : γ 18 = .int .i64 (wy) := hH.holds 18 (hL 18 (by decide))
   have y19 : γ 19 = .int .i64 (n) := hH.holds 19 (hL 19 (by decide))
   have y20 : γ 20 = .int .i64 (n2) := hH.holds 20 (hL 20 (by decide))
   have y21 : γ 21 = .int .i64 (gy) := hH.holds 21 (hL 21 (by decide))
   have y22 : γ 22 = .int .i64 (n) := hH.holds 22 (hL 22 (by decide))
   have y23 : γ 23 = .int .i64 (dy) := hH.holds 23 (hL 23 (by decide))
   have y24 : γ 24 = .int .i64 (my) := hH.holds 24 (hL 24 (by decide))
   have y25 : γ 25 = .int .i64 (sy) := hH.holds 25 (hL 25 (by decide))
   have y26 : γ 26 = .pointer (some ⟨pb, 0, none⟩) := hH.holds 26 (hL 26 (by decide))
   have y27 : γ 27 = .pointer (some ⟨pb, 2, none⟩) := hH.holds 27 (hL 27 (by decide))
   have y28 : γ 28 = .int .i64 (t1z) := hH.holds 28 (hL 28 (by decide))
   have y29 : γ 29 = .pointer (some ⟨tb, 27, none⟩) := hH.holds 29 (hL 29 (by decide))
   have y30 : γ 30 = .pointer (some ⟨tb, 29, none⟩) := hH.holds 30 (hL 30 (by decide))
   have y31 : γ 31 = .int .i64 (wz) := hH.holds 31 (hL 31 (by decide))
   have y32 : γ 32 = .int .i64 (n) := hH.holds 32 (hL 32 (by decide))
   have y33 : γ 33 = .int .i64 (n2) := hH.holds 33 (hL 33 (by decide))
   have y34 : γ 34 = .int .i64 (gz) := hH.holds 34 (hL 34 (by decide))
   have y35 : γ 35 = .int .i64 (n) := hH.holds 35 (hL 35 (by decide))
   have y36 : γ 36 = .int .i64 (dz) := hH.holds 36 (hL 36 (by decide))
   have y37 : γ 37 = .int .i64 (mz) := hH.holds 37 (hL 37 (by decide))
   have y38 : γ 38 = .int .i64 (sz) := hH.holds 38 (hL 38 (by decide))
   have y39 : γ 39 = .agg #[.int .i64 (sx), .int .i64 (sy), .int .i64 (sz)] := hH.holds 39 (hL 39 (by decide))
   have y40 : γ 40 = .pointer (some ⟨qb, 0, none⟩) := hH.holds 40 (hL 40 (by decide))
   rw [ha]
   clear ha hH hL hLo
   simp only [RV.putAll, Act.put, List.setIfInBounds_toArray, List.set_cons_zero, List.set_cons_succ, Nat.zero_add, Nat.reduceAdd, y0, y1, y2, y3, y4, y5, y6, y7, y8, y9, y10, y11, y12, y13, y14, y15, y16, y17, y18, y19, y20, y21, y22, y23, y24, y25, y26, y27, y28, y29, y30, y31, y32, y33, y34, y35, y36, y37, y38, y39, y40]
   clear y0 y1 y2 y3 y4 y5 y6 y7 y8 y9 y10 y11 y12 y13 y14 y15 y16 y17 y18 y19 y20 y21 y22 y23 y24 y25 y26 y27 y28 y29 y30 y31 y32 y33 y34 y35 y36 y37 y38 y39 y40
   have HZ : Hid _ := hb8
   go_wp2_with (fail)
   go_meet
   case rel => exact ⟨w8, rfl, HZ⟩
 case rest =>
  obtain ⟨w8, hw8, HZ⟩ := hcut
  have CR : Hid _ := (Cells.step CR.out HZ.out).put3 hqn.2.2.1 (.int .i64 sx) (.int .i64 sy) (.int .i64 sz)
  rw [<- hw8] at CR
  have CS : Hid _ := (Cells.step CS.out HZ.out).put3 hqn.2.2.2.1 (.int .i64 sx) (.int .i64 sy) (.int .i64 sz)
  rw [<- hw8] at CS
  have CA : Hid _ := (Cells.step CA.out HZ.out).put3 hqn.2.2.2.2.1 (.int .i64 sx) (.int .i64 sy) (.int .i64 sz)
  rw [<- hw8] at CA
  have CC : Hid _ := (Cells.step CC.out HZ.out).put3 hqn.2.2.2.2.2.1 (.int .i64 sx) (.int .i64 sy) (.int .i64 sz)
  rw [<- hw8] at CC
  have CQ : Hid (Cells wc qb [.int .i64 sx, .int .i64 sy, .int .i64 sz, .int .i64 qt2.w, .int .i64 qt2.x, .int .i64 qt2.y, .int .i64 qt2.z]) := by show Cells _ _ _; rw [hw8]; exact (((Cells.step CQ.out HZ.out).set 0 (.int .i64 sx) (by simp)).set 1 (.int .i64 sy) (by simp)).set 2 (.int .i64 sz) (by simp)
  have A1 : Hid _ := (A1.out.below HZ.out).put NQ.out.1 (.int .i64 sx) (.int .i64 sy) (.int .i64 sz)
  rw [<- hw8] at A1
  have A2 : Hid _ := (A2.out.below HZ.out).put NQ.out.2.1 (.int .i64 sx) (.int .i64 sy) (.int .i64 sz)
  rw [<- hw8] at A2
  have A3 : Hid _ := (A3.out.below HZ.out).put NQ.out.2.2.1 (.int .i64 sx) (.int .i64 sy) (.int .i64 sz)
  rw [<- hw8] at A3
  have C1 : Hid _ := (C1.out.below HZ.out).put NQ.out.2.2.2.1 (.int .i64 sx) (.int .i64 sy) (.int .i64 sz)
  rw [<- hw8] at C1
  have C2 : Hid _ := (C2.out.below HZ.out).put NQ.out.2.2.2.2.1 (.int .i64 sx) (.int .i64 sy) (.int .i64 sz)
  rw [<- hw8] at C2
  have C3 : Hid _ := (C3.out.below HZ.out).put NQ.out.2.2.2.2.2 (.int .i64 sx) (.int .i64 sy) (.int .i64 sz)
  rw [<- hw8] at C3
  have HB : Hid (Below w0.heap.size w0 wc) := by show Below _ _ _; rw [hw8]; exact (((b_step HB.out HZ.out).setCell hqn.1 _).setCell hqn.1 _).setCell hqn.1 _
  clear hw8 HZ w8 CW CP NQ x27 x28 x29 u0 u1 u2 v0 v1 v2 vf0 vf1 vf2
  have HPC : Hid _ := rplace_right ⟨sx, sy, sz⟩ qt2 HTI.out HQW.out Ps As Es HPn.out HPi.out HAt.out HEt.out hPl HAl.out.1 HAl.out.2 sr _ _ _ _ _ _ wc C1.out C2.out C3.out
  have hr5 : ra < wc.heap.size /\ rb < wc.heap.size := ⟨Cells.lt CR.out, Cells.lt CS.out⟩
  have x0 := (CC.out 0 _ rfl).1
  have x1 := (CC.out 1 _ rfl).1
  have x2 := (CC.out 2 _ rfl).1
  have x3 := (CC.out 3 _ rfl).1
  have v0 := (CQ.out 0 _ rfl).1
  have v1 := (CQ.out 1 _ rfl).1
  have v2 := (CQ.out 2 _ rfl).1
  have v3 := (CQ.out 3 _ rfl).1
  have v4 := (CQ.out 4 _ rfl).1
  have v5 := (CQ.out 5 _ rfl).1
  have v6 := (CQ.out 6 _ rfl).1
  unfold poseV at HPC
  dsimp only at HPC
  go_wp2_with (fail)
  refine Calls.mono HPC.out ?_
  rintro e V8 ⟨Pb, Ab, Eb, vb1, vb2, vb3, rfl, hT, hC⟩
  have NB : Hid _ := And.intro (own_far hT.rp hr5.1 (Ls := Pb)) (And.intro (own_far hT.ra hr5.1 (Ls := Ab)) (And.intro (own_far hT.re hr5.1 (Ls := Eb)) (And.intro (own_far hT.rp hr5.2 (Ls := Pb)) (And.intro (own_far hT.ra hr5.2 (Ls := Ab)) (own_far hT.re hr5.2 (Ls := Eb))))))
  have FB : Hid (farL w0.heap.size vb1 Pb /\ farL w0.heap.size vb2 Ab /\ farL w0.heap.size vb3 Eb) := ⟨own_farL hT.rp HB.out.size, own_farL hT.ra HB.out.size, own_farL hT.re HB.out.size⟩
  have hb := hT.below
  obtain ⟨bo1, bc1, rfl⟩ := rowp_form hT.rp
  obtain ⟨bo2, bc2, rfl⟩ := rowp_form hT.ra
  obtain ⟨bo3, bc3, rfl⟩ := rowp_form hT.re
  have B1 : Hid _ := Lies.of_row hT.rp
  have B2 : Hid _ := Lies.of_row hT.ra
  have B3 : Hid _ := Lies.of_row hT.re
  have HMB : Hid _ := HMY.out _ _ _ _ _ hC
  have CR : Hid _ := Cells.step CR.out hb
  have CS : Hid _ := Cells.step CS.out hb
  have CA : Hid _ := Cells.step CA.out hb
  have A1 : Hid _ := A1.out.below hb
  have A2 : Hid _ := A2.out.below hb
  have A3 : Hid _ := A3.out.below hb
  have HB : Hid _ := b_step HB.out hb
  clear hb hT hC HPC HMY CC CQ C1 C2 C3 x0 x1 x2 x3 v0 v1 v2 v3 v4 v5 v6
  obtain ⟨X8, hX8⟩ : ∃ V, V = V8.alloc (.cells #[.slice bo1 Pb.length bc1, .slice bo2 Ab.length bc2, .slice bo3 Eb.length bc3, .int .i64 sr] 35) := ⟨_, rfl⟩
  obtain ⟨db, hdb⟩ : ∃ b, b = V8.heap.size := ⟨_, rfl⟩
  have hdl : db ≠ ra /\ db ≠ rb := by have i1 := Cells.lt CR.out; have i2 := Cells.lt CS.out; omega
  have hbx : Below V8.heap.size V8 X8 := by rw [hX8]; exact n_after _ _
  have CD : Hid (Cells X8 db [.slice bo1 Pb.length bc1, .slice bo2 Ab.length bc2, .slice bo3 Eb.length bc3, .int .i64 sr]) := by show Cells _ _ _; rw [hX8, hdb]; exact Cells.new _ _ _
  go_upto_region 8 with fail
  rw [<- hX8, <- hdb]
  have CR : Hid _ := Cells.step CR.out hbx
  have CS : Hid _ := Cells.step CS.out hbx
  have CA : Hid _ := Cells.step CA.out hbx
  have A1 : Hid _ := A1.out.below hbx
  have A2 : Hid _ := A2.out.below hbx
  have A3 : Hid _ := A3.out.below hbx
  have B1 : Hid _ := B1.out.below hbx
  have B2 : Hid _ := B2.out.below hbx
  have B3 : Hid _ := B3.out.below hbx
  have HB : Hid _ := b_step HB.out hbx
  clear hX8 hdb hbx
  obtain ⟨N1, N2, N3, N4, N5, N6⟩ := NA.out
  obtain ⟨M1, M2, M3, M4, M5, M6⟩ := NB.out
  have FIN : Hid (∀ w9 : World, Below X8.heap.size X8 w9 -> ∀ W9 : World, (W9 = set4 (set4 w9 ra (.slice ao1 Pa.length ac1) (.slice ao2 Aa.length ac2) (.slice ao3 Ea.length ac3) (.int .i64 sa)) rb (.slice bo1 Pb.length bc1) (.slice bo2 Ab.length bc2) (.slice bo3 Eb.length bc3) (.int .i64 sr) \/ W9 = set4 (set4 w9 rb (.slice bo1 Pb.length bc1) (.slice bo2 Ab.length bc2) (.slice bo3 Eb.length bc3) (.int .i64 sr)) ra (.slice ao1 Pa.length ac1) (.slice ao2 Aa.length ac2) (.slice ao3 Ea.length ac3) (.int .i64 sa)) ->
    Lies W9 (.slice ao1 Pa.length ac1) Pa /\ Lies W9 (.slice ao2 Aa.length ac2) Aa /\ Lies W9 (.slice ao3 Ea.length ac3) Ea /\ Lies W9 (.slice bo1 Pb.length bc1) Pb /\ Lies W9 (.slice bo2 Ab.length bc2) Ab /\ Lies W9 (.slice bo3 Eb.length bc3) Eb /\ Below w0.heap.size w0 W9) := fun w9 h9 W9 e => by
   rcases e with rfl | rfl
   ·exact ⟨((A1.out.below h9).put4 N1 _ _ _ _).put4 N4 _ _ _ _, ((A2.out.below h9).put4 N2 _ _ _ _).put4 N5 _ _ _ _, ((A3.out.below h9).put4 N3 _ _ _ _).put4 N6 _ _ _ _, ((B1.out.below h9).put4 M1 _ _ _ _).put4 M4 _ _ _ _, ((B2.out.below h9).put4 M2 _ _ _ _).put4 M5 _ _ _ _, ((B3.out.below h9).put4 M3 _ _ _ _).put4 M6 _ _ _ _, set4_below (set4_below (b_step HB.out h9) hro.1 _ _ _ _) hro.2.1 _ _ _ _⟩
   ·exact ⟨((A1.out.below h9).put4 N4 _ _ _ _).put4 N1 _ _ _ _, ((A2.out.below h9).put4 N5 _ _ _ _).put4 N2 _ _ _ _, ((A3.out.below h9).put4 N6 _ _ _ _).put4 N3 _ _ _ _, ((B1.out.below h9).put4 M4 _ _ _ _).put4 M1 _ _ _ _, ((B2.out.below h9).put4 M5 _ _ _ _).put4 M2 _ _ _ _, ((B3.out.below h9).put4 M6 _ _ _ _).put4 M3 _ _ _ _, set4_below (set4_below (b_step HB.out h9) hro.2.1 _ _ _ _) hro.1 _ _ _ _⟩
  clear N1 N2 N3 N4 N5 N6 M1 M2 M3 M4 M5 M6 NA NB A1 A2 A3 B1 B2 B3 HB
  have hne := hro.2.2.1
  have hne' : rb ≠ ra := Ne.symm hro.2.2.1
  obtain ⟨hl1, hl2⟩ := hal
  obtain ⟨hl3, hl4⟩ := hdl
  have x0 := (CA.out 0 _ rfl).1
  have x1 := (CA.out 1 _ rfl).1
  have x2 := (CA.out 2 _ rfl).1
  have x3 := (CA.out 3 _ rfl).1
  have v0 := (CD.out 0 _ rfl).1
  have v1 := (CD.out 1 _ rfl).1
  have v2 := (CD.out 2 _ rfl).1
  have v3 := (CD.out 3 _ rfl).1
  obtain ⟨y0, yf0⟩ := CR.out 0 _ rfl
  obtain ⟨y1, yf1⟩ := CR.out 1 _ rfl
  obtain ⟨y2, yf2⟩ := CR.out 2 _ rfl
  obtain ⟨y3, yf3⟩ := CR.out 3 _ rfl
  obtain ⟨u0, uf0⟩ := CS.out 0 _ rfl
  obtain ⟨u1, uf1⟩ := CS.out 1 _ rfl
  obtain ⟨u2, uf2⟩ := CS.out 2 _ rfl
  obtain ⟨u3, uf3⟩ := CS.out 3 _ rfl
  obtain ⟨W8, hW8⟩ : ∃ W, W = set4 (set4 X8 ra (.slice ao1 Pa.length ac1) (.slice ao2 Aa.length ac2) (.slice ao3 Ea.length ac3) (.int .i64 sa)) rb (.slice bo1 Pb.length bc1) (.slice bo2 Ab.length bc2) (.slice bo3 Eb.length bc3) (.int .i64 sr) := ⟨_, rfl⟩
  have g1 := Cells.set4 CR.out (.slice ao1 Pa.length ac1) (.slice ao2 Aa.length ac2) (.slice ao3 Ea.length ac3) (.int .i64 sa)
  have g2 := cells_apart4 g1 hne (.slice bo1 Pb.length bc1) (.slice bo2 Ab.length bc2) (.slice bo3 Eb.length bc3) (.int .i64 sr)
  have g3 := cells_apart4 CS.out hne' (.slice ao1 Pa.length ac1) (.slice ao2 Aa.length ac2) (.slice ao3 Ea.length ac3) (.int .i64 sa)
  have g4 := Cells.set4 g3 (.slice bo1 Pb.length bc1) (.slice bo2 Ab.length bc2) (.slice bo3 Eb.length bc3) (.int .i64 sr)
  rw [<- hW8] at g2 g4
  have D1 : Hid _ := g2
  have D2 : Hid _ := g4
  clear g1 g2 g3 g4
  have F8 : Hid _ := FIN.out X8 (Below.refl _ _) W8 (by rw [hW8]; exact Or.inl rfl)
  have hdr : Below W8.heap.size W8 W8.drew := (Below.refl _ _).drew
  have G1 : Hid _ := Cells.step D1.out hdr
  have G2 : Hid _ := Cells.step D2.out hdr
  clear D1 D2
  have F9 : Hid _ := And.intro (F8.out.1.below hdr) (And.intro (F8.out.2.1.below hdr) (And.intro (F8.out.2.2.1.below hdr) (And.intro (F8.out.2.2.2.1.below hdr) (And.intro (F8.out.2.2.2.2.1.below hdr) (And.intro (F8.out.2.2.2.2.2.1.below hdr) (b_step F8.out.2.2.2.2.2.2 hdr))))))
  unfold set4 at hW8
  clear FIN F8 hdr
  go_region
  rw [<- hW8]
  clear hW8 x0 x1 x2 x3 v0 v1 v2 v3 y0 y1 y2 y3 yf0 yf1 yf2 yf3 u0 u1 u2 u3 uf0 uf1 uf2 uf3
  generalize W8.drew = W9 at *
  have y0 := (G1.out 0 _ rfl).1
  have u0 := (G2.out 0 _ rfl).1
  have y1 := (G1.out 1 _ rfl).1
  have u1 := (G2.out 1 _ rfl).1
  have y2 := (G1.out 2 _ rfl).1
  have u2 := (G2.out 2 _ rfl).1
  have y3 := (G1.out 3 _ rfl).1
  have u3 := (G2.out 3 _ rfl).1
  go_step
  rename_i hK
  refine hK _ _ ?_
  go_step
  exact bodyPost_ret (v := .tuple #[.agg #[.slice ao1 Pa.length ac1, .slice ao2 Aa.length ac2, .slice ao3 Ea.length ac3, .int .i64 sa], .agg #[.slice bo1 Pb.length bc1, .slice bo2 Ab.length bc2, .slice bo3 Eb.length bc3, .int .i64 sr]]) (by simp [results, Tryz.results8, go_sem, y0, y1, y2, y3, u0, u1, u2, u3]) rfl ⟨⟨Pa, Aa, Ea, sa⟩, ⟨Pb, Ab, Eb, sr⟩, _, _, _, _, _, _, rfl, F9, HMA.out.1, HMB.out, HMA.out.2, HRR.out, FA.out.1, FA.out.2.1, FA.out.2.2, FB.out.1, FB.out.2.1, FB.out.2.2⟩
end
end Go.Proofs.YtffjifhojedmkaaGreat
