/- A raw shape at a raw pose, by the document: a core that may be told apart. -/
import Derived.Test.YtfalniafkambmaaBNS0
import Derived.Test.YtfalniafkambmaaBNS18
import Derived.Test.YtfalniafkambmaaBNS22
import Derived.Test.YtfalniafkambmaaBNS11
import Derived.Test.YtfalniafkambmaaBNS2
namespace Go.Proofs.Ytfalniafkambmaa
open Go.RowKit Go.Shelf
set_option linter.unusedVariables false

set_option maxHeartbeats 8000000 in
set_option maxRecDepth 100000 in
theorem placed_any (k rr x y z : Int) (pv : Value) (Ls : List Pt) (y0 y1 y2 y3 y4 y5 y6 : Int) (w0 : World) (bk : -9223372036854775808 ≤ k ∧ k ≤ 9223372036854775807) (br : -9223372036854775808 ≤ rr ∧ rr ≤ 9223372036854775807) (bx : -9223372036854775808 ≤ x ∧ x ≤ 9223372036854775807) (by_ : -9223372036854775808 ≤ y ∧ y ≤ 9223372036854775807) (bz : -9223372036854775808 ≤ z ∧ z ≤ 9223372036854775807) (hv : Lies w0 pv Ls) (hfit : ∀ p ∈ Ls, p.fits) (bq0 : -9223372036854775808 ≤ y0 ∧ y0 ≤ 9223372036854775807) (bq1 : -9223372036854775808 ≤ y1 ∧ y1 ≤ 9223372036854775807) (bq2 : -9223372036854775808 ≤ y2 ∧ y2 ≤ 9223372036854775807) (bq3 : -9223372036854775808 ≤ y3 ∧ y3 ≤ 9223372036854775807) (bq4 : -9223372036854775808 ≤ y4 ∧ y4 ≤ 9223372036854775807) (bq5 : -9223372036854775808 ≤ y5 ∧ y5 ≤ 9223372036854775807) (bq6 : -9223372036854775808 ≤ y6 ∧ y6 ≤ 9223372036854775807) :
    Calls Try.prog 12 #[.agg #[.int .i64 k, .int .i64 rr, .int .i64 x, .int .i64 y, .int .i64 z, pv], .agg #[.int .i64 y0, .int .i64 y1, .int .i64 y2, .int .i64 y3, .int .i64 y4, .int .i64 y5, .int .i64 y6]] w0 fun e W => ∃ (c : Cr) (vp va ve : Value), e = .returned (.agg #[vp, va, ve, .int .i64 c.r]) ∧ Hid (Three w0 W vp va ve c.P c.A c.E) ∧ mayN c ∧ (1 ≤ c.r ∧ c.r ≤ 16384) := by
  have HR : Hid _ := fun w' (h : Below w0.heap.size w0 w') => right_any k rr x y z pv Ls w' bk br bx by_ bz (hv.below h) hfit
  have HQ : Hid _ := fun w' => right6_any y0 y1 y2 y3 y4 y5 y6 w' bq0 bq1 bq2 bq3 bq4 bq5 bq6
  clear bk br bx by_ bz bq0 bq1 bq2 bq3 bq4 bq5 bq6 hfit
  obtain ⟨po, pc, rfl, _⟩ := hv.form
  clear hv
  obtain ⟨W1, hW1⟩ : ∃ W1, W1 = ((w0.alloc (.cells #[.int .i64 k, .int .i64 rr, .int .i64 x, .int .i64 y, .int .i64 z, .slice po Ls.length pc] 26)).alloc (.cells #[.int .i64 y0, .int .i64 y1, .int .i64 y2, .int .i64 y3, .int .i64 y4, .int .i64 y5, .int .i64 y6] 31)).alloc (.cells #[.slice none 0 0, .slice none 0 0, .slice none 0 0, .int .i64 0] 36) := ⟨_, rfl⟩
  have B1 : Hid (Cells W1 w0.heap.size [.int .i64 k, .int .i64 rr, .int .i64 x, .int .i64 y, .int .i64 z, .slice po Ls.length pc]) := by show Cells _ _ _; rw [hW1]; exact ((Cells.new w0 [.int .i64 k, .int .i64 rr, .int .i64 x, .int .i64 y, .int .i64 z, .slice po Ls.length pc] _).step (n_after _ _)).step (n_after _ _)
  have CQ : Hid (Cells W1 (w0.heap.size + 1) [.int .i64 y0, .int .i64 y1, .int .i64 y2, .int .i64 y3, .int .i64 y4, .int .i64 y5, .int .i64 y6]) := by show Cells _ _ _; rw [hW1]; have h9 := (Cells.new (w0.alloc (.cells #[.int .i64 k, .int .i64 rr, .int .i64 x, .int .i64 y, .int .i64 z, .slice po Ls.length pc] 26)) [.int .i64 y0, .int .i64 y1, .int .i64 y2, .int .i64 y3, .int .i64 y4, .int .i64 y5, .int .i64 y6] 31).step (n_after _ (.cells #[.slice none 0 0, .slice none 0 0, .slice none 0 0, .int .i64 0] 36)); rw [World.size_alloc] at h9; exact h9
  have CO : Hid (Cells W1 (w0.heap.size + 1 + 1) [.slice none 0 0, .slice none 0 0, .slice none 0 0, .int .i64 0]) := by show Cells _ _ _; rw [hW1]; have h9 := Cells.new ((w0.alloc (.cells #[.int .i64 k, .int .i64 rr, .int .i64 x, .int .i64 y, .int .i64 z, .slice po Ls.length pc] 26)).alloc (.cells #[.int .i64 y0, .int .i64 y1, .int .i64 y2, .int .i64 y3, .int .i64 y4, .int .i64 y5, .int .i64 y6] 31)) [.slice none 0 0, .slice none 0 0, .slice none 0 0, .int .i64 0] 36; rw [World.size_alloc, World.size_alloc] at h9; exact h9
  have HB : Hid (Below w0.heap.size w0 W1) := by show Below _ _ _; rw [hW1]; exact b_step (b_step (n_after _ _) (n_after _ _)) (n_after _ _)
  obtain ⟨rb, hrb⟩ : ∃ b, b = w0.heap.size := ⟨_, rfl⟩
  obtain ⟨qb, hqb⟩ : ∃ b, b = w0.heap.size + 1 := ⟨_, rfl⟩
  obtain ⟨ob, hob⟩ : ∃ b, b = w0.heap.size + 1 + 1 := ⟨_, rfl⟩
  rw [← hob] at CO
  rw [← hqb] at CQ
  rw [← hrb] at B1
  have hob0 : w0.heap.size ≤ ob := by omega
  go_enter Try.func12, Try.ntmps12
  go_upto_region 1 with fail
  rw [← hW1, ← hob, ← hqb, ← hrb]
  clear hW1 hrb hqb hob
  obtain ⟨x0, x1, x2, x3, x4, x5⟩ : _ ∧ _ ∧ _ ∧ _ ∧ _ ∧ _ := ⟨(B1.out 0 _ rfl).1, (B1.out 1 _ rfl).1, (B1.out 2 _ rfl).1, (B1.out 3 _ rfl).1, (B1.out 4 _ rfl).1, (B1.out 5 _ rfl).1⟩
  go_wp2_with (fail)
  refine Calls.mono (HR.out _ HB.out) ?_
  rintro e V1 ⟨sh, u, rfl, hrow, hgd, _⟩
  have hb := hrow.below
  have HC : Hid _ := rcore_any sh u V1 hrow.lies
  have CQ : Hid _ := Cells.step CQ.out hb
  have CO : Hid _ := Cells.step CO.out hb
  have HB : Hid _ := b_step HB.out hb
  have HGD : Hid _ := hgd
  clear hb x0 x1 x2 x3 x4 x5 B1 HR hrow hgd
  unfold Sh.v at HC
  go_wp2_with (fail)
  refine Calls.mono HC.out ?_
  rintro e V2 ⟨vp, va, ve, _, hok⟩
  obtain ⟨rfl, h3⟩ := hok HGD.out.ok
  have hb := h3.below
  have CQ : Hid _ := Cells.step CQ.out hb
  have CO : Hid _ := Cells.step CO.out hb
  have HB : Hid _ := b_step HB.out hb
  obtain ⟨op, cp, rfl⟩ := rowp_form h3.rp
  obtain ⟨oa, ca, rfl⟩ := rowp_form h3.ra
  obtain ⟨oe, ce, rfl⟩ := rowp_form h3.re
  have LP : Hid _ := Lies.of_row h3.rp
  have LA : Hid _ := Lies.of_row h3.ra
  have LE : Hid _ := Lies.of_row h3.re
  clear hb h3 HC hok
  have HPn : Hid _ := gd_pts HGD.out
  have HPi : Hid _ := gd_in HGD.out
  have HAt : Hid (∀ p ∈ axesP sh, p ≠ Pt.O ∧ p.short = p) := (gd_axes HGD.out).1
  have HEt : Hid (∀ p ∈ edgesP sh, p ≠ Pt.O ∧ p.short = p) := (gd_edges HGD.out).1
  have HAl : Hid _ := gd_alen HGD.out
  have hPl : (ptsP sh).length < 1099511627776 := by have := gd_len HGD.out; omega
  have HMY : Hid (∀ t q P2 A2 E2, Came t q (ptsP sh) (axesP sh) (edgesP sh) P2 A2 E2 → mayN ⟨P2, A2, E2, sh.radius⟩) := fun t q P2 A2 E2 h => came_near HGD.out h
  have HRR : Hid (1 ≤ sh.radius ∧ sh.radius ≤ 16384) := HGD.out.r
  generalize ptsP sh = Ps at *
  generalize axesP sh = As at *
  generalize edgesP sh = Es at *
  generalize sh.radius = sr at *
  clear HGD
  obtain ⟨X, hX⟩ : ∃ V, V = V2.alloc (.cells #[.slice op Ps.length cp, .slice oa As.length ca, .slice oe Es.length ce, .int .i64 sr] 36) := ⟨_, rfl⟩
  obtain ⟨b4, hb4⟩ : ∃ b, b = V2.heap.size := ⟨_, rfl⟩
  have hbx : Below V2.heap.size V2 X := by rw [hX]; exact n_after _ _
  have CC : Hid (Cells X b4 [.slice op Ps.length cp, .slice oa As.length ca, .slice oe Es.length ce, .int .i64 sr]) := by show Cells _ _ _; rw [hX, hb4]; exact Cells.new _ _ _
  go_upto_region 2 with fail
  rw [← hX, ← hb4]
  have CQ : Hid _ := Cells.step CQ.out hbx
  have CO : Hid _ := Cells.step CO.out hbx
  have HB : Hid _ := b_step HB.out hbx
  have LP : Hid _ := LP.out.below hbx
  have LA : Hid _ := LA.out.below hbx
  have LE : Hid _ := LE.out.below hbx
  have hol : ob < X.heap.size := Cells.lt CO.out
  clear hX hb4 hbx
  go_cut [7] from 15 to 21 (fun s7 wx => ∃ (P2 A2 E2 : List Pt) (vp va ve : Value) (t : Pt) (q : Q4) (b8 : Nat), s7 = .pointer (some ⟨b8, 0, none⟩) ∧ Three X wx vp va ve P2 A2 E2 ∧ Came t q Ps As Es P2 A2 E2 ∧ Cells wx b8 [vp, va, ve, .int .i64 sr] ∧ Below X.heap.size X wx)
  case first =>
      refine RV.region_by2 (fun j v w => match j with | 0 => v = .agg #[.slice op Ps.length cp, .slice oa As.length ca, .slice oe Es.length ce, .int .i64 sr] | 1 => v = .agg #[.int .i64 y0, .int .i64 y1, .int .i64 y2, .int .i64 y3, .int .i64 y4, .int .i64 y5, .int .i64 y6] | 2 => (fun v w => ∃ (t : Pt) (q : Q4), v = poseV t q ∧ t.inB 4398046511104 = true ∧ WM.Whole q.w q.x q.y q.z) v w | 3 => True | 4 => True | 5 => True | 6 => v = .bool true | 7 => True | 8 => True | 9 => v = .bool true | _ => True) (fun γ L w => SG X sr Ps As Es (γ 2) (γ 3) (γ 4) (γ 5) (γ 7) (L 2) (L 3) (L 4) (L 5) (L 7) (L 8) w) (by kernel_rfl) (by kernel_rfl) (by kernel_rfl) (by kernel_rfl) ?_ ?_ ?_
      · have b9 : Below X.heap.size X X.drew := (Below.refl _ _).drew; exact ⟨b9, (fun e => by cases e), (fun e => by cases e), (fun e => by cases e), (fun e => by cases e)⟩
      · generalize hD : dstOf _ = D
        generalize hWA : waitsFor _ = WA
        generalize hZ : Act.mk _ _ = Z
        obtain ⟨R, hR⟩ : ∃ R : Nat → Value → World → Prop, R = (fun j v w => match j with | 0 => v = .agg #[.slice op Ps.length cp, .slice oa As.length ca, .slice oe Es.length ce, .int .i64 sr] | 1 => v = .agg #[.int .i64 y0, .int .i64 y1, .int .i64 y2, .int .i64 y3, .int .i64 y4, .int .i64 y5, .int .i64 y6] | 2 => (fun v w => ∃ (t : Pt) (q : Q4), v = poseV t q ∧ t.inB 4398046511104 = true ∧ WM.Whole q.w q.x q.y q.z) v w | 3 => True | 4 => True | 5 => True | 6 => v = .bool true | 7 => True | 8 => True | 9 => v = .bool true | _ => True) := ⟨_, rfl⟩
        rw [← hR]
        have kn : RV.Kn R [.some (.agg #[.slice op Ps.length cp, .slice oa As.length ca, .slice oe Es.length ce, .int .i64 sr]), .some (.agg #[.int .i64 y0, .int .i64 y1, .int .i64 y2, .int .i64 y3, .int .i64 y4, .int .i64 y5, .int .i64 y6]), none, none, none, none, .some (.bool true), none, none, .some (.bool true)] 0 := by rw [hR]; exact ⟨fun _ _ => Iff.rfl, fun _ _ => Iff.rfl, fun _ _ => Iff.rfl, fun _ _ => Iff.rfl, trivial⟩
        have T := RV.kfacts [17, 18, 19, 20, 16, 21, 22, 8, 0, 9] [(3, .pointer (some ⟨qb, 0, none⟩)), (5, .pointer (some ⟨b4, 0, none⟩))] hD hZ kn ⟨rfl, rfl, trivial⟩ (by kernel_rfl) (by kernel_rfl)
        simp only [RV.Outs, RV.Slots, Nat.reduceAdd] at T
        have r2 : ∀ v w, R 2 v w = ((fun v w => ∃ (t : Pt) (q : Q4), v = poseV t q ∧ t.inB 4398046511104 = true ∧ WM.Whole q.w q.x q.y q.z) v w) := fun v w => by rw [hR]; rfl
        have r3 : ∀ v w, R 3 v w = (True) := fun v w => by rw [hR]; rfl
        have r4 : ∀ v w, R 4 v w = (True) := fun v w => by rw [hR]; rfl
        have r5 : ∀ v w, R 5 v w = (True) := fun v w => by rw [hR]; rfl
        have r7 : ∀ v w, R 7 v w = (True) := fun v w => by rw [hR]; rfl
        have r8 : ∀ v w, R 8 v w = (True) := fun v w => by rw [hR]; rfl
        have K : ∀ j v w w', R j v w → R j v w' := by rw [hR]; intro j v w w' h; exact h
        iterate 2 first
          | (refine RV.AllDo.cons _ (RV.pk kn T (fun γ v L w hl h => by rw [RV.upd_ne γ (i := _) (j := 2) _ (by decide), RV.upd_ne γ (i := _) (j := 3) _ (by decide), RV.upd_ne γ (i := _) (j := 4) _ (by decide), RV.upd_ne γ (i := _) (j := 5) _ (by decide), RV.upd_ne γ (i := _) (j := 7) _ (by decide), RV.more_ne (L := L) (i := _) (j := 2) (by decide), RV.more_ne (L := L) (i := _) (j := 3) (by decide), RV.more_ne (L := L) (i := _) (j := 4) (by decide), RV.more_ne (L := L) (i := _) (j := 5) (by decide), RV.more_ne (L := L) (i := _) (j := 7) (by decide), RV.more_ne (L := L) (i := _) (j := 8) (by decide)]; exact h) (fun γ L a w hH hl h9 k9 => ⟨_, ?_, rfl⟩)) ?_; · have wz0 := (Cells.step CC.out hH.glob.be 0 _ rfl).1; have wz1 := (Cells.step CC.out hH.glob.be 1 _ rfl).1; have wz2 := (Cells.step CC.out hH.glob.be 2 _ rfl).1; have wz3 := (Cells.step CC.out hH.glob.be 3 _ rfl).1; simp [execOp, go_sem, h9, wz0, wz1, wz2, wz3])
          | (refine RV.AllDo.cons _ (RV.pk kn T (fun γ v L w hl h => by rw [RV.upd_ne γ (i := _) (j := 2) _ (by decide), RV.upd_ne γ (i := _) (j := 3) _ (by decide), RV.upd_ne γ (i := _) (j := 4) _ (by decide), RV.upd_ne γ (i := _) (j := 5) _ (by decide), RV.upd_ne γ (i := _) (j := 7) _ (by decide), RV.more_ne (L := L) (i := _) (j := 2) (by decide), RV.more_ne (L := L) (i := _) (j := 3) (by decide), RV.more_ne (L := L) (i := _) (j := 4) (by decide), RV.more_ne (L := L) (i := _) (j := 5) (by decide), RV.more_ne (L := L) (i := _) (j := 7) (by decide), RV.more_ne (L := L) (i := _) (j := 8) (by decide)]; exact h) (fun γ L a w hH hl h9 k9 => ⟨_, ?_, rfl⟩)) ?_; · have wz0 := (Cells.step CQ.out hH.glob.be 0 _ rfl).1; have wz1 := (Cells.step CQ.out hH.glob.be 1 _ rfl).1; have wz2 := (Cells.step CQ.out hH.glob.be 2 _ rfl).1; have wz3 := (Cells.step CQ.out hH.glob.be 3 _ rfl).1; have wz4 := (Cells.step CQ.out hH.glob.be 4 _ rfl).1; have wz5 := (Cells.step CQ.out hH.glob.be 5 _ rfl).1; have wz6 := (Cells.step CQ.out hH.glob.be 6 _ rfl).1; simp [execOp, go_sem, h9, wz0, wz1, wz2, wz3, wz4, wz5, wz6])
        refine RV.AllDo.cons _ (RV.does_call (fun γ L a w hH hl hA => by have h9 := T _ _ γ L a w hH; have k9 := hA; simp [Region.binds] at k9; refine ⟨15, #[.agg #[.int .i64 y0, .int .i64 y1, .int .i64 y2, .int .i64 y3, .int .i64 y4, .int .i64 y5, .int .i64 y6]], by simp [go_sem, h9, k9], Calls.mono (HQ.out w) ?_⟩; rintro e w2 ⟨t, q, rfl, ht, hq, hb⟩; refine ⟨_, rfl, (r2 _ _).mpr ⟨t, q, rfl, ht, hq⟩, fun j v _ h => K j v _ _ h, ?_⟩; rw [RV.upd_ne γ (i := 2) (j := 3) _ (by decide), RV.upd_ne γ (i := 2) (j := 4) _ (by decide), RV.upd_ne γ (i := 2) (j := 5) _ (by decide), RV.upd_ne γ (i := 2) (j := 7) _ (by decide), RV.more_ne (L := L) (i := 2) (j := 3) (by decide), RV.more_ne (L := L) (i := 2) (j := 4) (by decide), RV.more_ne (L := L) (i := 2) (j := 5) (by decide), RV.more_ne (L := L) (i := 2) (j := 7) (by decide), RV.more_ne (L := L) (i := 2) (j := 8) (by decide)]; have h9 := hH.glob.step hb; exact ⟨h9.be, h9.t3, h9.m4, h9.m5, h9.pd⟩)) ?_
        refine RV.AllDo.cons _ (RV.does_call (fun γ L a w hH hl hA => by have h9 := T _ _ γ L a w hH; have k9 := hA; simp [Region.binds] at k9; have l1 : L 2 = true := hA ⟨2, .data⟩ (by simp) rfl; have e1 := hH.slot 2 18 (by rw [← hD]; rfl) l1; have g1 := hH.holds 2 l1; rw [r2] at g1; have h4 : L 4 = false := RV.not_yet hH (RV.wt (j := 4) (i := 3) hWA (by kernel_rfl)) hl; have h5 : L 5 = false := RV.not_yet hH (RV.wt (j := 5) (i := 4) hWA (by kernel_rfl)) h4; have h8 : L 8 = false := RV.not_yet hH (RV.wt (j := 8) (i := 5) hWA (by kernel_rfl)) h5; obtain ⟨t, q, hv1, ht, hq⟩ := g1; rw [hv1] at e1; refine ⟨16, #[.agg #[.slice op Ps.length cp, .slice oa As.length ca, .slice oe Es.length ce, .int .i64 sr], poseV t q], by simp [go_sem, e1, h9, k9], Calls.mono (rplace_right t q (inB_mono ht (by decide)) hq Ps As Es HPn.out HPi.out HAt.out HEt.out hPl HAl.out.1 HAl.out.2 sr _ _ _ _ _ _ w (LP.out.below hH.glob.be) (LA.out.below hH.glob.be) (LE.out.below hH.glob.be)) ?_⟩; rintro e w2 ⟨Px2, Ax2, Ex2, vp, va, ve, rfl, hT, hC⟩; refine ⟨_, rfl, (r3 _ _).mpr trivial, fun j v _ h => K j v _ _ h, ?_⟩; rw [RV.upd_ne γ (i := 3) (j := 2) _ (by decide), RV.upd_ne γ (i := 3) (j := 4) _ (by decide), RV.upd_ne γ (i := 3) (j := 5) _ (by decide), RV.upd_ne γ (i := 3) (j := 7) _ (by decide), RV.more_ne (L := L) (i := 3) (j := 2) (by decide), RV.more_ne (L := L) (i := 3) (j := 4) (by decide), RV.more_ne (L := L) (i := 3) (j := 5) (by decide), RV.more_ne (L := L) (i := 3) (j := 7) (by decide), RV.more_ne (L := L) (i := 3) (j := 8) (by decide), RV.upd_self, RV.more_self]; exact hH.glob.got h4 h5 h8 hT hC)) ?_
        refine RV.AllDo.cons _ (RV.does_step (fun γ L a w hH hl hA => by have l0 : L 3 = true := hA ⟨3, .data⟩ (by simp) rfl; have e0 := hH.slot 3 19 (by rw [← hD]; rfl) l0; exact ⟨γ 3, w, by simp [execOp, go_sem, e0], (r4 _ _).mpr trivial, fun j v _ h => K j v _ _ h, by rw [RV.upd_ne γ (i := 4) (j := 2) _ (by decide), RV.upd_ne γ (i := 4) (j := 3) _ (by decide), RV.upd_ne γ (i := 4) (j := 5) _ (by decide), RV.upd_ne γ (i := 4) (j := 7) _ (by decide), RV.more_ne (L := L) (i := 4) (j := 2) (by decide), RV.more_ne (L := L) (i := 4) (j := 3) (by decide), RV.more_ne (L := L) (i := 4) (j := 5) (by decide), RV.more_ne (L := L) (i := 4) (j := 7) (by decide), RV.more_ne (L := L) (i := 4) (j := 8) (by decide), RV.upd_self]; exact ⟨hH.glob.be, hH.glob.t3, fun _ => rfl, hH.glob.m5, hH.glob.pd⟩⟩)) ?_
        refine RV.AllDo.cons _ (RV.does_step (fun γ L a w hH hl hA => by have l0 : L 4 = true := hA ⟨4, .data⟩ (by simp) rfl; have e0 := hH.slot 4 15 (by rw [← hD]; rfl) l0; have l3 : L 3 = true := hH.closed 4 3 (RV.wt (j := 4) (i := 3) hWA (by kernel_rfl)) l0; obtain ⟨Px2, Ax2, Ex2, vp, va, ve, t, q, x1, x2, x3⟩ := hH.glob.t3 l3; have x4 := hH.glob.m4 l0; rw [x4, x1] at e0; refine ⟨.agg #[vp, va, ve, .int .i64 sr], w, by simp [execOp, go_sem, e0], (r5 _ _).mpr trivial, fun j v _ h => K j v _ _ h, ?_⟩; rw [RV.upd_ne γ (i := 5) (j := 2) _ (by decide), RV.upd_ne γ (i := 5) (j := 3) _ (by decide), RV.upd_ne γ (i := 5) (j := 4) _ (by decide), RV.upd_ne γ (i := 5) (j := 7) _ (by decide), RV.more_ne (L := L) (i := 5) (j := 2) (by decide), RV.more_ne (L := L) (i := 5) (j := 3) (by decide), RV.more_ne (L := L) (i := 5) (j := 4) (by decide), RV.more_ne (L := L) (i := 5) (j := 7) (by decide), RV.more_ne (L := L) (i := 5) (j := 8) (by decide), RV.upd_self]; exact ⟨hH.glob.be, hH.glob.t3, hH.glob.m4, fun _ => by rw [x1]; rfl, hH.glob.pd⟩)) ?_
        refine RV.AllDo.cons _ (RV.does_step (fun γ L a w hH hl hA => by have l0 : L 4 = true := hA ⟨4, .data⟩ (by simp) rfl; have e0 := hH.slot 4 15 (by rw [← hD]; rfl) l0; have l3 : L 3 = true := hH.closed 4 3 (RV.wt (j := 4) (i := 3) hWA (by kernel_rfl)) l0; obtain ⟨Px2, Ax2, Ex2, vp, va, ve, t, q, x1, x2, x3⟩ := hH.glob.t3 l3; have x4 := hH.glob.m4 l0; rw [x4, x1] at e0; refine ⟨.bool true, w, by simp [execOp, go_sem, e0], ((kn.at (k := 6) rfl _ _).2 rfl), fun j v _ h => K j v _ _ h, ?_⟩; rw [RV.upd_ne γ (i := 6) (j := 2) _ (by decide), RV.upd_ne γ (i := 6) (j := 3) _ (by decide), RV.upd_ne γ (i := 6) (j := 4) _ (by decide), RV.upd_ne γ (i := 6) (j := 5) _ (by decide), RV.upd_ne γ (i := 6) (j := 7) _ (by decide), RV.more_ne (L := L) (i := 6) (j := 2) (by decide), RV.more_ne (L := L) (i := 6) (j := 3) (by decide), RV.more_ne (L := L) (i := 6) (j := 4) (by decide), RV.more_ne (L := L) (i := 6) (j := 5) (by decide), RV.more_ne (L := L) (i := 6) (j := 7) (by decide), RV.more_ne (L := L) (i := 6) (j := 8) (by decide)]; exact hH.glob)) ?_
        refine RV.AllDo.cons _ (RV.does_step (fun γ L a w hH hl hA => by have h8 : L 8 = false := RV.not_yet hH (RV.wt (j := 8) (i := 7) hWA (by kernel_rfl)) hl; refine ⟨.pointer (some ⟨w.heap.size, 0, none⟩), w.alloc (.cells #[.slice none 0 0, .slice none 0 0, .slice none 0 0, .int .i64 0] 36), by simp [execOp, go_sem], (r7 _ _).mpr trivial, fun j v _ h => K j v _ _ h, ?_⟩; rw [RV.upd_ne γ (i := 7) (j := 2) _ (by decide), RV.upd_ne γ (i := 7) (j := 3) _ (by decide), RV.upd_ne γ (i := 7) (j := 4) _ (by decide), RV.upd_ne γ (i := 7) (j := 5) _ (by decide), RV.more_ne (L := L) (i := 7) (j := 2) (by decide), RV.more_ne (L := L) (i := 7) (j := 3) (by decide), RV.more_ne (L := L) (i := 7) (j := 4) (by decide), RV.more_ne (L := L) (i := 7) (j := 5) (by decide), RV.more_ne (L := L) (i := 7) (j := 8) (by decide), RV.upd_self, RV.more_self]; exact hH.glob.made h8)) ?_
        refine RV.AllDo.cons _ (RV.does_store (fun γ L a w hH hl hA => by have l0 : L 7 = true := hA ⟨7, .data⟩ (by simp) rfl; have l1 : L 5 = true := hA ⟨5, .data⟩ (by simp) rfl; have e0 := hH.slot 7 7 (by rw [← hD]; rfl) l0; have e1 := hH.slot 5 20 (by rw [← hD]; rfl) l1; have hG := hH.glob; have m4 : L 4 = true := hH.closed 5 4 (RV.wt (j := 5) (i := 4) hWA (by kernel_rfl)) l1; have m3 : L 3 = true := hH.closed 4 3 (RV.wt (j := 4) (i := 3) hWA (by kernel_rfl)) m4; rw [m3, l0] at hG; obtain ⟨Px2, Ax2, Ex2, vp, va, ve, t, q, x1, x2, x3⟩ := hG.t3 rfl; obtain ⟨b, cs, k1, k2, k3, k4, _⟩ := hG.pd rfl; have x5 := hG.m5 l1; rw [x1] at x5; obtain ⟨o5_, c5_, rfl⟩ := rowp_form x2.rp; obtain ⟨o9_, c9_, rfl⟩ := rowp_form x2.ra; obtain ⟨o13_, c13_, rfl⟩ := rowp_form x2.re; rw [k1] at e0; rw [x5] at e1; have q9 := hG.fill k1 k2 k3 k4 x1; obtain ⟨q0, q1, q2, q3, rfl⟩ := arr4' k4; have wz0 : w.cell? ⟨b, 0, none⟩ = some q0 := (by simp [World.cell?, k3]); have wz1 : w.cell? ⟨b, 1, none⟩ = some q1 := (by simp [World.cell?, k3]); have wz2 : w.cell? ⟨b, 2, none⟩ = some q2 := (by simp [World.cell?, k3]); have wz3 : w.cell? ⟨b, 3, none⟩ = some q3 := (by simp [World.cell?, k3]); have zf : ∀ o, w.frozen? ⟨b, o, none⟩ = false := fun o => (by simp [World.frozen?, k3]); refine ⟨_, by simp [execOp, go_sem, e0, e1, cp0, wz0, wz1, wz2, wz3, zf]; rfl, (r8 _ _).mpr trivial, fun j v _ h => K j v _ _ h, ?_⟩; rw [RV.upd_ne γ (i := 8) (j := 2) _ (by decide), RV.upd_ne γ (i := 8) (j := 3) _ (by decide), RV.upd_ne γ (i := 8) (j := 4) _ (by decide), RV.upd_ne γ (i := 8) (j := 5) _ (by decide), RV.upd_ne γ (i := 8) (j := 7) _ (by decide), RV.more_ne (L := L) (i := 8) (j := 2) (by decide), RV.more_ne (L := L) (i := 8) (j := 3) (by decide), RV.more_ne (L := L) (i := 8) (j := 4) (by decide), RV.more_ne (L := L) (i := 8) (j := 5) (by decide), RV.more_ne (L := L) (i := 8) (j := 7) (by decide), RV.more_self, m3, l0]; exact q9)) ?_
        (refine RV.AllDo.cons _ (RV.pk kn T (fun γ v L w hl h => by rw [RV.upd_ne γ (i := _) (j := 2) _ (by decide), RV.upd_ne γ (i := _) (j := 3) _ (by decide), RV.upd_ne γ (i := _) (j := 4) _ (by decide), RV.upd_ne γ (i := _) (j := 5) _ (by decide), RV.upd_ne γ (i := _) (j := 7) _ (by decide), RV.more_ne (L := L) (i := _) (j := 2) (by decide), RV.more_ne (L := L) (i := _) (j := 3) (by decide), RV.more_ne (L := L) (i := _) (j := 4) (by decide), RV.more_ne (L := L) (i := _) (j := 5) (by decide), RV.more_ne (L := L) (i := _) (j := 7) (by decide), RV.more_ne (L := L) (i := _) (j := 8) (by decide)]; exact h) (fun γ L a w hH hl h9 k9 => ⟨_, ?_, rfl⟩)) ?_; · simp [Region.binds] at k9; simp [execOp, go_sem, h9, k9])
        exact RV.AllDo.nil
      · intro γ a5 w5 L9 hL hLo hH
        have ha := RV.held_act hH hL (by kernel_rfl) (by kernel_rfl)
        have hG := hH.glob
        rw [hL 2 (by decide), hL 3 (by decide), hL 4 (by decide), hL 5 (by decide), hL 7 (by decide), hL 8 (by decide)] at hG
        obtain ⟨Px2, Ax2, Ex2, vp, va, ve, t, q, x1, x2, x3⟩ := hG.t3 rfl
        obtain ⟨b8, cs, k1, k2, k3, k4, k5⟩ := hG.pd rfl
        have e6 : γ 6 = .bool true := hH.holds 6 (hL 6 (by decide))
        have e9_ : γ 9 = .bool true := hH.holds 9 (hL 9 (by decide))
        rw [(k5 rfl).2 _ _ _ x1] at k3
        rw [ha]
        clear ha hH hL hLo k5
        simp only [RV.putAll, Act.put, List.setIfInBounds_toArray, List.set_cons_zero, List.set_cons_succ, Nat.zero_add, Nat.reduceAdd]
        rw [k1, e9_, e6]
        have C8 : Cells w5 b8 [vp, va, ve, .int .i64 sr] := fun i v e => ⟨by simp [World.cell?, k3]; exact e, by simp [World.frozen?, k3]⟩
        obtain ⟨o5_, c5_, rfl⟩ := rowp_form x2.rp
        obtain ⟨o9_, c9_, rfl⟩ := rowp_form x2.ra
        obtain ⟨o13_, c13_, rfl⟩ := rowp_form x2.re
        have hB5 := hG.be
        clear hG k1 k3 k4 x1
        go_wp2_with (fail)
        go_meet
        case rel => exact ⟨Px2, Ax2, Ex2, _, _, _, t, q, b8, rfl, x2, x3, C8, hB5⟩
  case rest =>
    obtain ⟨P2, A2, E2, vp, va, ve, t, q, b8, rfl, hT, hC, h8, hbw⟩ := hcut
    have HM : Hid _ := HMY.out _ _ _ _ _ hC
    have CO : Hid _ := Cells.step CO.out hbw
    have hr : ∀ {u : Value} {n : Nat} {xs : List Value}, wc.ownsRow X.heap.size 23 3 u n xs → u.ownBlock ≠ some ob := fun h9 e => by have := (h9.lt ob e).1; omega
    have HT : Hid _ := (hT.up HB.out).set hob0 (hr hT.rp) (hr hT.ra) (hr hT.re) vp va ve (.int .i64 sr)
    obtain ⟨o7, c7, rfl⟩ := rowp_form hT.rp
    obtain ⟨o8, c8, rfl⟩ := rowp_form hT.ra
    obtain ⟨o9, c9, rfl⟩ := rowp_form hT.re
    obtain ⟨m0, m1, m2, m3⟩ : _ ∧ _ ∧ _ ∧ _ := ⟨(h8 0 _ rfl).1, (h8 1 _ rfl).1, (h8 2 _ rfl).1, (h8 3 _ rfl).1⟩
    obtain ⟨z0, zf0⟩ := CO.out 0 _ rfl
    obtain ⟨z1, zf1⟩ := CO.out 1 _ rfl
    obtain ⟨z2, zf2⟩ := CO.out 2 _ rfl
    obtain ⟨z3, zf3⟩ := CO.out 3 _ rfl
    unfold set4 at HT
    clear hT hC h8 hbw hr HMY LP LA LE CC CQ HB HQ
    go_wp2_with (fail)
    exact bodyPost_ret (v := .agg #[.slice o7 P2.length c7, .slice o8 A2.length c8, .slice o9 E2.length c9, .int .i64 sr]) (by simp [results, Try.results12, go_sem, z0, z1, z2, z3]) rfl ⟨⟨P2, A2, E2, sr⟩, _, _, _, rfl, HT, HM.out, HRR.out⟩
end Go.Proofs.Ytfalniafkambmaa
namespace Go.Proofs.Ytfalniafkambmaa
open Go.RowKit Go.Shelf
set_option linter.unusedVariables false

theorem setg (W : World) (b o : Nat) (u : Value) : W.grownBy (W.setCell ⟨b, o, none⟩ u) (some b) := ⟨rfl, rfl, rfl, by simp [World.setCell], fun k _ hk => Below.heap_setCell _ _ _ k (fun e => hk (by rw [e]))⟩
theorem Lies.put {W : World} {v : Value} {Ls : List Pt} (h : Lies W v Ls) {b : Nat} (hne : ∀ q n c, v = .slice (some q) n c → Ls ≠ [] → q.block ≠ b) (x y z : Value) : Lies (((W.setCell ⟨b, 0, none⟩ x).setCell ⟨b, 1, none⟩ y).setCell ⟨b, 2, none⟩ z) v Ls :=
  ((h.grown (setg W b 0 x) hne).grown (setg _ b 1 y) hne).grown (setg _ b 2 z) hne
theorem Cells.put3 {W : World} {b b' : Nat} {vs : List Value} (h : Cells W b vs) (hne : b ≠ b') (x y z : Value) : Cells (((W.setCell ⟨b', 0, none⟩ x).setCell ⟨b', 1, none⟩ y).setCell ⟨b', 2, none⟩ z) b vs := ((h.apart hne 0 x).apart hne 1 y).apart hne 2 z
theorem Lies.far {W : World} {v : Value} {Ls : List Pt} (h : Lies W v Ls) {b : Nat} (hb : W.heap.size ≤ b) : ∀ q n c, v = .slice (some q) n c → Ls ≠ [] → q.block ≠ b := fun q n c e h0 e' => by
  subst e
  have := h.lt h0
  omega
theorem own_far {W : World} {base n : Nat} {v : Value} {xs : List Value} (h : W.ownsRow base 23 3 v n xs) {b : Nat} (hb : b < base) {Ls : List Pt} : ∀ q k c, v = .slice (some q) k c → Ls ≠ [] → q.block ≠ b := fun q k c e _ e' => by
  subst e
  have := (h.lt q.block rfl).1
  omega
end Go.Proofs.Ytfalniafkambmaa
