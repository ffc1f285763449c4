/- A half turn around a way turns each point about, exactly; two are none: for every raw shape, and each of the three ways. -/
import Derived.Test.YtocdompopadanaaKPsL
import Derived.Test.YtocdompopadanaaKPsN
import Derived.Test.YtocdompopadanaaKOpenP
import Derived.Test.YtocdompopadanaaRows
import Derived.ProofKit
import Derived.OpenShut
namespace Go.Proofs.Ytocdompopadanaa
namespace poseHalf
open Go.ChangeShapes Go.WideShapes Go.ChangeAt Go.RowKit Go.Shelf
set_option linter.unusedVariables false

theorem own : ownKnob Try.prog.godebug = none := by kernel_rfl
theorem laidOut : laidOutB Try.prog = true := by kernel_rfl

theorem pick6_any (c n : Int) (w : World) (hc : -9223372036854775808 ≤ c ∧ c ≤ 9223372036854775807) (hn : 0 < n) (hn' : n ≤ 9223372036854775807) :
    Calls Try.prog 14 #[.int .i64 c, .int .i64 n] w fun e w' => e = .returned (.int .i64 (pickZ c n)) ∧ w' = w := by
  unfold pickZ
  by_cases h : c < 0
  · have hb : 0 ≤ -(c + 1) := by omega
    have hb' : -(c + 1) ≤ 9223372036854775807 := by omega
    have hz : (n == 0) = false := beq_eq_false_iff_ne.2 (by omega)
    rw [if_pos h]
    go_enter Try.func14, Try.ntmps14
    go_wp2
    go_ret
    have e : (c + 1).tmod n = -(-(c + 1) % n) := by
      rw [← Int.tmod_eq_emod_of_nonneg hb, Int.neg_tmod, Int.neg_neg]
    exact ⟨by rw [e, Int.neg_neg]; rfl, rfl⟩
  · have hz : (n == 0) = false := beq_eq_false_iff_ne.2 (by omega)
    rw [if_neg h]
    go_enter Try.func14, Try.ntmps14
    go_wp2
    go_ret
    exact ⟨rfl, rfl⟩
/-- A core that is turned by a turn that turns parts about. -/
theorem place_diag {b0 b1 b2 : Bool} (q : Q4) (hw : WM.Whole q.w q.x q.y q.z) (hd : (rowsM q).Dg b0 b1 b2) (P A E : List Pt) (h0 : 0 < P.length) (hP : ∀ p ∈ P, p.inB 65536 = true) (hA : ∀ p ∈ A, p ≠ Pt.O ∧ p.short = p) (hE : ∀ p ∈ E, p ≠ Pt.O ∧ p.short = p) (nP : P.length < 1099511627776) (nA : A.length < 1099511627776) (nE : E.length < 1099511627776)
    (r : Int) (o o2 o3 : Option Addr) (c c2 c3 : Nat) (W : World) (l1 : Lies W (.slice o P.length c) P) (l2 : Lies W (.slice o2 A.length c2) A) (l3 : Lies W (.slice o3 E.length c3) E) :
    Calls Try.prog 15 #[.agg #[.slice o P.length c, .slice o2 A.length c2, .slice o3 E.length c3, .int .i64 r], .agg #[.int .i64 0, .int .i64 0, .int .i64 0, .int .i64 q.w, .int .i64 q.x, .int .i64 q.y, .int .i64 q.z]] W fun e W' => ∃ (o : Option Addr) (c : Nat) (o2 : Option Addr) (c2 : Nat) (o3 : Option Addr) (c3 : Nat), e = .returned (.tuple #[.agg #[.slice o P.length c, .slice o2 A.length c2, .slice o3 E.length c3, .int .i64 r], .bool true]) ∧ Hid (Lies W' (.slice o P.length c) (P.map (Pt.flip b0 b1 b2)) ∧ Lies W' (.slice o2 A.length c2) (A.map (Pt.flip b0 b1 b2)) ∧ Lies W' (.slice o3 E.length c3) (E.map (Pt.flip b0 b1 b2))) ∧ Below W.heap.size W W' := by
  have hc := place_any Pt.O q P A E r _ _ _ W l1 l2 l3 nP nA nE
  rw [place_ok hw (by decide) h0 hP (fun p hp => (short_g (hA p hp).1 (hA p hp).2).2) (fun p hp => (short_g (hE p hp).1 (hE p hp).2).2), diag_points hd hP, diag_dirs hd hA, diag_dirs hd hE] at hc
  refine Calls.mono hc ?_
  rintro e W' ⟨vp, va, ve, _, h⟩
  obtain ⟨rfl, h3⟩ := h rfl
  obtain ⟨o1, c1, rfl⟩ := rowp_form h3.rp
  obtain ⟨o2, c2, rfl⟩ := rowp_form h3.ra
  obtain ⟨o3, c3, rfl⟩ := rowp_form h3.re
  have g1 := Lies.of_row h3.rp
  have g2 := Lies.of_row h3.ra
  have g3 := Lies.of_row h3.re
  simp only [List.length_map] at g1 g2 g3 ⊢
  exact ⟨o1, c1, o2, c2, o3, c3, rfl, ⟨g1, g2, g3⟩, h3.below⟩
/-- Which way: the turn, what it does to the parts. -/
structure Way (k : Nat) (q : Q4) (b0 b1 b2 : Bool) : Prop where
  w : WM.Whole q.w q.x q.y q.z
  d : (rowsM q).Dg b0 b1 b2
theorem way_x : Way 0 ⟨0, 4294967296, 0, 0⟩ false true true := ⟨by unfold WM.Whole; decide, rows_x.2⟩
theorem way_y : Way 1 ⟨0, 0, 4294967296, 0⟩ true false true := ⟨by unfold WM.Whole; decide, rows_y.2⟩
theorem way_z : Way 2 ⟨0, 0, 0, 4294967296⟩ true true false := ⟨by unfold WM.Whole; decide, rows_z.2⟩

set_option maxHeartbeats 4000000 in
set_option maxRecDepth 100000 in
theorem walk (k rr x y z : Int) (o : Option Addr) (L : List Pt) (c : Nat) (which : Int) (w0 : World) (hL : Lies w0 (.slice o L.length c) L) (hF : ∀ p ∈ L, p.fits) (bk : -9223372036854775808 ≤ k ∧ k ≤ 9223372036854775807) (br : -9223372036854775808 ≤ rr ∧ rr ≤ 9223372036854775807) (bx : -9223372036854775808 ≤ x ∧ x ≤ 9223372036854775807) (by_ : -9223372036854775808 ≤ y ∧ y ≤ 9223372036854775807) (bz : -9223372036854775808 ≤ z ∧ z ≤ 9223372036854775807) (bw : -9223372036854775808 ≤ which ∧ which ≤ 9223372036854775807) :
    Calls Try.prog 4 #[.agg #[.int .i64 k, .int .i64 rr, .int .i64 x, .int .i64 y, .int .i64 z, .slice o L.length c], .int .i64 which] w0 fun e w' => e = .returned (.bool true) ∧ Below w0.heap.size w0 w' := by
  have AW : Hid _ := fun W => awake6_any W
  have HR : Hid _ := fun w' (h : Lies w' (.slice o L.length c) L) => right_any k rr x y z (.slice o L.length c) L w' bk br bx by_ bz h hF
  have HPK : Hid _ := fun w' => pick6_any which 3 w' bw (by decide) (by decide)
  have h30 := pickZ_lo which (n := 3) (by decide)
  have h33 := pickZ_hi which (n := 3) (by decide)
  generalize pickZ which 3 = kk at *
  have HL : Hid _ := hL
  clear bk br bx by_ bz hF hL bw
  have B1 : Hid (Cells (w0.alloc (.cells #[.int .i64 k, .int .i64 rr, .int .i64 x, .int .i64 y, .int .i64 z, .slice o L.length c] 33)) w0.heap.size [.int .i64 k, .int .i64 rr, .int .i64 x, .int .i64 y, .int .i64 z, .slice o L.length c]) := Cells.new w0 [.int .i64 k, .int .i64 rr, .int .i64 x, .int .i64 y, .int .i64 z, .slice o L.length c] _
  have hB : Hid (Below w0.heap.size w0 (w0.alloc (.cells #[.int .i64 k, .int .i64 rr, .int .i64 x, .int .i64 y, .int .i64 z, .slice o L.length c] 33))) := n_after w0 _
  go_enter Try.func4, Try.ntmps4
  go_wp2_with (fail)
  refine Calls.mono (AW.out _) ?_
  clear AW
  rintro e V ⟨rfl, h⟩
  have B1 : Hid (Cells V w0.heap.size [.int .i64 k, .int .i64 rr, .int .i64 x, .int .i64 y, .int .i64 z, .slice o L.length c]) := Cells.step B1.out h
  have hD : Hid _ := b_step hB.out h
  clear h hB
  have c0 := (B1.out 0 _ rfl).1
  have c1 := (B1.out 1 _ rfl).1
  have c2 := (B1.out 2 _ rfl).1
  have c3 := (B1.out 3 _ rfl).1
  have c4 := (B1.out 4 _ rfl).1
  have c5 := (B1.out 5 _ rfl).1
  go_wp2_with (fail)
  refine Calls.mono (HR.out _ (HL.out.below hD.out)) ?_
  clear HR
  rintro e V2 ⟨s, u, rfl, hRow, hGood, _⟩
  obtain ⟨ou, lu, cu, rfl⟩ := own_slice hRow.row
  have hD : Hid _ := b_step hD.out hRow.below
  have HC : Hid _ := core_any s (.slice ou lu cu) V2 hRow.lies
  have HK : Hid _ := hGood
  clear hRow hGood c0 c1 c2 c3 c4 c5 B1 HL
  have HAt : Hid (∀ p ∈ axesP s, p ≠ Pt.O ∧ p.short = p) := (gd_axes HK.out).one
  have HEt : Hid (∀ p ∈ edgesP s, p ≠ Pt.O ∧ p.short = p) := (gd_edges HK.out).one
  have HPn : Hid _ := gd_pts HK.out
  have HPi : Hid _ := gd_in HK.out
  have HAl : Hid _ := gd_alen HK.out
  have hPl : (ptsP s).length < 1099511627776 := by have := gd_len HK.out; omega
  have HO : Hid _ := HK.out.ok
  clear HK
  generalize axesP s = A at *
  generalize edgesP s = E at *
  generalize ptsP s = P at *
  obtain ⟨sk, sr, ⟨sx, sy, sz⟩, M⟩ := s
  unfold Sh.v at *
  dsimp only at *
  go_wp2_with (fail)
  refine Calls.mono HC.out ?_
  clear HC
  rintro e V3 ⟨vp, va, ve, _, hcore⟩
  obtain ⟨rfl, hT⟩ := hcore HO.out
  have HT : Hid _ := hT
  clear hT hcore HO
  obtain ⟨op, cp, rfl, _⟩ := (Lies.of_row HT.out.rp).form
  obtain ⟨oa, ca, rfl, _⟩ := (Lies.of_row HT.out.ra).form
  obtain ⟨oe, ce, rfl, _⟩ := (Lies.of_row HT.out.re).form
  go_upto_region 5 with fail
  obtain ⟨X, hX⟩ : ∃ X : World, X = V3.alloc (.cells #[.slice op P.length cp, .slice oa A.length ca, .slice oe E.length ce, .int .i64 sr] 35) := ⟨_, rfl⟩
  obtain ⟨b4, hb4⟩ : ∃ b, b = V3.heap.size := ⟨_, rfl⟩
  have CC : Hid (Cells X b4 [.slice op P.length cp, .slice oa A.length ca, .slice oe E.length ce, .int .i64 sr]) := by show Cells _ _ _; rw [hX, hb4]; exact Cells.new V3 [.slice op P.length cp, .slice oa A.length ca, .slice oe E.length ce, .int .i64 sr] _
  have LP : Hid (Lies X (.slice op P.length cp) P) := by show Lies _ _ _; rw [hX]; exact (Lies.of_row HT.out.rp).below (n_after _ _)
  have LA : Hid (Lies X (.slice oa A.length ca) A) := by show Lies _ _ _; rw [hX]; exact (Lies.of_row HT.out.ra).below (n_after _ _)
  have LE : Hid (Lies X (.slice oe E.length ce) E) := by show Lies _ _ _; rw [hX]; exact (Lies.of_row HT.out.re).below (n_after _ _)
  have hD : Hid (Below w0.heap.size w0 X) := by show Below _ _ _; rw [hX]; exact b_step (b_step hD.out HT.out.below) (n_after _ _)
  rw [← hX, ← hb4]
  clear hX hb4 HT
  have d0 := (CC.out 0 _ rfl).1
  have d1 := (CC.out 1 _ rfl).1
  have d2 := (CC.out 2 _ rfl).1
  have d3 := (CC.out 3 _ rfl).1
  have hbX : b4 < X.heap.size := Cells.lt CC.out
  go_wp2_with (fail)
  refine Calls.mono (HPK.out _) ?_
  clear HPK
  rintro e w' ⟨rfl, rfl⟩
  have hkk : kk = 0 ∨ kk = 1 ∨ kk = 2 := by omega
  clear h30 h33
  rcases hkk with rfl | rfl | rfl
  · have WY : Way 0 ⟨0, 4294967296, 0, 0⟩ false true true := way_x
    have HQ1 : Hid _ := place_diag ⟨0, 4294967296, 0, 0⟩ WY.w WY.d P A E HPn.out HPi.out HAt.out HEt.out hPl HAl.out.1 HAl.out.2 sr
    have HQ2 : Hid _ := place_diag ⟨0, 4294967296, 0, 0⟩ WY.w WY.d (P.map (Pt.flip false true true)) (A.map (Pt.flip false true true)) (E.map (Pt.flip false true true)) (by rw [List.length_map]; exact HPn.out) (fun p hp => by obtain ⟨x, hx, rfl⟩ := List.mem_map.1 hp; rw [flip_in]; exact HPi.out x hx) (fun p hp => by obtain ⟨x, hx, rfl⟩ := List.mem_map.1 hp; exact ⟨flip_ne (HAt.out x hx).1, flip_short (HAt.out x hx).1 (HAt.out x hx).2⟩) (fun p hp => by obtain ⟨x, hx, rfl⟩ := List.mem_map.1 hp; exact ⟨flip_ne (HEt.out x hx).1, flip_short (HEt.out x hx).1 (HEt.out x hx).2⟩) (by rw [List.length_map]; exact hPl) (by rw [List.length_map]; exact HAl.out.1) (by rw [List.length_map]; exact HAl.out.2) sr
    simp only [map_flip_flip, List.length_map] at HQ2
    go_upto_region 8 with fail
    obtain ⟨Y, hY⟩ : ∃ Y : World, Y = (((w'.alloc (.cells #[.int .i64 0, .int .i64 4294967296, .int .i64 0, .int .i64 0, .int .i64 0, .int .i64 0, .int .i64 4294967296, .int .i64 0, .int .i64 0, .int .i64 0, .int .i64 0, .int .i64 4294967296] 43)).alloc (.cells #[.int .i64 0, .int .i64 4294967296, .int .i64 0, .int .i64 0] 43)).alloc (.cells #[.int .i64 1, .int .i64 (-1), .int .i64 (-1), .int .i64 (-1), .int .i64 1, .int .i64 (-1), .int .i64 (-1), .int .i64 (-1), .int .i64 1] 23)).alloc (.cells #[.int .i64 1, .int .i64 (-1), .int .i64 (-1)] 23) := ⟨_, rfl⟩
    obtain ⟨qb, hqb⟩ : ∃ b, b = w'.heap.size + 1 := ⟨_, rfl⟩
    obtain ⟨bb, hbb⟩ : ∃ b, b = w'.heap.size + 1 + 1 + 1 := ⟨_, rfl⟩
    have b9 : Below w'.heap.size w' Y := by rw [hY]; exact b_step (b_step (b_step (n_after _ _) (n_after _ _)) (n_after _ _)) (n_after _ _)
    have CQ : Hid (Cells Y qb [.int .i64 0, .int .i64 4294967296, .int .i64 0, .int .i64 0]) := by show Cells _ _ _; rw [hY, hqb]; have h9 := ((Cells.new (w'.alloc (.cells #[.int .i64 0, .int .i64 4294967296, .int .i64 0, .int .i64 0, .int .i64 0, .int .i64 0, .int .i64 4294967296, .int .i64 0, .int .i64 0, .int .i64 0, .int .i64 0, .int .i64 4294967296] 43)) [.int .i64 0, .int .i64 4294967296, .int .i64 0, .int .i64 0] 43).step (n_after _ (.cells #[.int .i64 1, .int .i64 (-1), .int .i64 (-1), .int .i64 (-1), .int .i64 1, .int .i64 (-1), .int .i64 (-1), .int .i64 (-1), .int .i64 1] 23))).step (n_after _ (.cells #[.int .i64 1, .int .i64 (-1), .int .i64 (-1)] 23)); rw [World.size_alloc] at h9; exact h9
    have CB : Hid (Cells Y bb [.int .i64 1, .int .i64 (-1), .int .i64 (-1)]) := by show Cells _ _ _; rw [hY, hbb]; have h9 := Cells.new (((w'.alloc (.cells #[.int .i64 0, .int .i64 4294967296, .int .i64 0, .int .i64 0, .int .i64 0, .int .i64 0, .int .i64 4294967296, .int .i64 0, .int .i64 0, .int .i64 0, .int .i64 0, .int .i64 4294967296] 43)).alloc (.cells #[.int .i64 0, .int .i64 4294967296, .int .i64 0, .int .i64 0] 43)).alloc (.cells #[.int .i64 1, .int .i64 (-1), .int .i64 (-1), .int .i64 (-1), .int .i64 1, .int .i64 (-1), .int .i64 (-1), .int .i64 (-1), .int .i64 1] 23)) [.int .i64 1, .int .i64 (-1), .int .i64 (-1)] 23; rw [World.size_alloc, World.size_alloc, World.size_alloc] at h9; exact h9
    rw [← hY, ← hbb, ← hqb]
    have CC : Hid _ := Cells.step CC.out b9
    have LP : Hid _ := LP.out.below b9
    have LA : Hid _ := LA.out.below b9
    have LE : Hid _ := LE.out.below b9
    have hD : Hid _ := b_step hD.out b9
    clear hY hqb hbb b9 d0 d1 d2 d3 hbX
    have d0 := (CC.out 0 _ rfl).1
    have d1 := (CC.out 1 _ rfl).1
    have d2 := (CC.out 2 _ rfl).1
    have d3 := (CC.out 3 _ rfl).1
    have q0 := (CQ.out 0 _ rfl).1
    have q1 := (CQ.out 1 _ rfl).1
    have q2 := (CQ.out 2 _ rfl).1
    have q3 := (CQ.out 3 _ rfl).1
    go_wp2_with (fail)
    refine Calls.mono (HQ1.out _ _ _ _ _ _ _ LP.out LA.out LE.out) ?_
    clear HQ1 d0 d1 d2 d3 q0 q1 q2 q3
    rintro e Y1 ⟨o1, k1, o2, k2, o3, k3, rfl, HL1, hb⟩
    go_upto_region 9 with fail
    obtain ⟨Z1, hZ1⟩ : ∃ Z : World, Z = Y1.alloc (.cells #[.slice o1 P.length k1, .slice o2 A.length k2, .slice o3 E.length k3, .int .i64 sr] 35) := ⟨_, rfl⟩
    obtain ⟨db, hdb⟩ : ∃ b, b = Y1.heap.size := ⟨_, rfl⟩
    have b9 : Below Y1.heap.size Y1 Z1 := by rw [hZ1]; exact n_after _ _
    have CD : Hid (Cells Z1 db [.slice o1 P.length k1, .slice o2 A.length k2, .slice o3 E.length k3, .int .i64 sr]) := by show Cells _ _ _; rw [hZ1, hdb]; exact Cells.new _ _ _
    rw [← hZ1, ← hdb]
    have b8 := b_step hb b9
    have CC : Hid _ := Cells.step CC.out b8
    have CQ : Hid _ := Cells.step CQ.out b8
    have CB : Hid _ := Cells.step CB.out b8
    have LP : Hid _ := LP.out.below b8
    have LE : Hid _ := LE.out.below b8
    have hD : Hid _ := b_step hD.out b8
    have HL1 : Hid _ := And.intro (HL1.out.1.below b9) (And.intro (HL1.out.2.1.below b9) (HL1.out.2.2.below b9))
    clear hZ1 hdb b9 b8 hb LA
    have d0 := (CD.out 0 _ rfl).1
    have d1 := (CD.out 1 _ rfl).1
    have d2 := (CD.out 2 _ rfl).1
    have d3 := (CD.out 3 _ rfl).1
    have q0 := (CQ.out 0 _ rfl).1
    have q1 := (CQ.out 1 _ rfl).1
    have q2 := (CQ.out 2 _ rfl).1
    have q3 := (CQ.out 3 _ rfl).1
    go_wp2_with (fail)
    refine Calls.mono (HQ2.out _ _ _ _ _ _ _ HL1.out.1 HL1.out.2.1 HL1.out.2.2) ?_
    clear HQ2 d0 d1 d2 d3 q0 q1 q2 q3 CQ
    rintro e Y2 ⟨o4, k4, o5, k5, o6, k6, rfl, HL2, hb⟩
    go_upto_region 10 with fail
    obtain ⟨Z2, hZ2⟩ : ∃ Z : World, Z = Y2.alloc (.cells #[.slice o4 P.length k4, .slice o5 A.length k5, .slice o6 E.length k6, .int .i64 sr] 35) := ⟨_, rfl⟩
    obtain ⟨eb, heb⟩ : ∃ b, b = Y2.heap.size := ⟨_, rfl⟩
    have b9 : Below Y2.heap.size Y2 Z2 := by rw [hZ2]; exact n_after _ _
    have CE : Hid (Cells Z2 eb [.slice o4 P.length k4, .slice o5 A.length k5, .slice o6 E.length k6, .int .i64 sr]) := by show Cells _ _ _; rw [hZ2, heb]; exact Cells.new _ _ _
    rw [← hZ2, ← heb]
    have b8 := b_step hb b9
    have CC : Hid _ := Cells.step CC.out b8
    have CB : Hid _ := Cells.step CB.out b8
    have CD : Hid _ := Cells.step CD.out b8
    have LP : Hid _ := LP.out.below b8
    have LE : Hid _ := LE.out.below b8
    have hD : Hid _ := b_step hD.out b8
    have LD : Hid _ := HL1.out.1.below b8
    have LP2 : Hid _ := HL2.out.1.below b9
    have LE2 : Hid _ := HL2.out.2.2.below b9
    clear hZ2 heb b9 b8 hb HL1 HL2
    have d0 := (CD.out 0 _ rfl).1
    have x0 := (CC.out 0 _ rfl).1
    have y0 := (CE.out 0 _ rfl).1
    have HX : Hid _ := points_same6 _ _ P Z2 LP2.out LP.out
    go_wp2_with (fail)
    refine Calls.mono HX.out ?_
    clear HX d0 x0 y0 LP2
    rintro e Z3 ⟨rfl, hb⟩
    have CC : Hid _ := Cells.step CC.out hb
    have CB : Hid _ := Cells.step CB.out hb
    have CD : Hid _ := Cells.step CD.out hb
    have CE : Hid _ := Cells.step CE.out hb
    have LP : Hid _ := LP.out.below hb
    have LD : Hid _ := LD.out.below hb
    have hD : Hid _ := b_step hD.out hb
    have HX : Hid _ := points_same6 _ _ E Z3 (LE2.out.below hb) (LE.out.below hb)
    clear LE LE2 hb
    have x2 := (CC.out 2 _ rfl).1
    have y2 := (CE.out 2 _ rfl).1
    go_wp2_with (fail)
    refine Calls.mono HX.out ?_
    clear HX x2 y2 CE
    rintro e Z4 ⟨rfl, hb⟩
    have CC : Hid _ := Cells.step CC.out hb
    have CB : Hid _ := Cells.step CB.out hb
    have CD : Hid _ := Cells.step CD.out hb
    have LP : Hid _ := LP.out.below hb
    have LD : Hid _ := LD.out.below hb
    have hD : Hid _ := b_step hD.out hb
    clear hb
    go_wp2_with (fail)
    go_loopg [15] P.length (fun gm s wr => ∃ i : Nat, s = .int .i64 (i : Int) ∧ i ≤ P.length ∧ gm = P.length - i ∧ Hid (Below Z4.heap.size Z4 wr))
    case atStart => exact ⟨0, rfl, Nat.zero_le _, rfl, Below.refl _ _⟩
    case round =>
      obtain ⟨i, rfl, hi, hgm, HB⟩ := hrel
      have HG : Hid _ := hgm
      clear hgm
      have a0 := (Cells.step CC.out HB.out 0 _ rfl).1
      have dd0 := (Cells.step CD.out HB.out 0 _ rfl).1
      have bb0 := (Cells.step CB.out HB.out 0 _ rfl).1
      have bb1 := (Cells.step CB.out HB.out 1 _ rfl).1
      have bb2 := (Cells.step CB.out HB.out 2 _ rfl).1
      by_cases hit : i < P.length
      · obtain ⟨o7, c7, e7, _, k9, hc7⟩ := (LP.out.below HB.out).form
        obtain ⟨o8, c8, e8, _, k10, hc8⟩ := (LD.out.below HB.out).form
        simp only [Value.slice.injEq, List.length_map, true_and] at e7 e8
        obtain ⟨rfl, rfl⟩ := e7
        obtain ⟨rfl, rfl⟩ := e8
        obtain ⟨g7, f7, rfl, x0, x1, x2⟩ := hc7 i hit
        obtain ⟨g8, f8, rfl, y0, y1, y2⟩ := hc8 i (by rw [List.length_map]; exact hit)
        have ep : pt (P.map (Pt.flip false true true)) i = (pt P i).flip false true true := by unfold pt; simp [hit]
        rw [ep] at y0 y1 y2
        have hin := (Pt.inB_iff _ _).1 (HPi.out _ (pt_mem hit))
        unfold Pt.flip at y0 y1 y2
        simp only [sgn, cond_true, cond_false] at y0 y1 y2
        clear ep hc7 hc8
        generalize (pt P i).x = px at *
        generalize (pt P i).y = py at *
        generalize (pt P i).z = pz at *
        have w0_ : IntKind.i64.wrap (1 * px) = px := by rw [IntKind.wrap_i64]; omega
        have w1_ : IntKind.i64.wrap (1 * py) = py := by rw [IntKind.wrap_i64]; omega
        have w2_ : IntKind.i64.wrap (1 * pz) = pz := by rw [IntKind.wrap_i64]; omega
        have w3_ : IntKind.i64.wrap (-1 * px) = -px := by rw [IntKind.wrap_i64]; omega
        have w4_ : IntKind.i64.wrap (-1 * py) = -py := by rw [IntKind.wrap_i64]; omega
        have w5_ : IntKind.i64.wrap (-1 * pz) = -pz := by rw [IntKind.wrap_i64]; omega
        have n0_ : IntKind.i64.wrap (-px) = -px := by rw [IntKind.wrap_i64]; omega
        have n1_ : IntKind.i64.wrap (-py) = -py := by rw [IntKind.wrap_i64]; omega
        have n2_ : IntKind.i64.wrap (-pz) = -pz := by rw [IntKind.wrap_i64]; omega
        have hin' := hin
        clear hin
        have lg8 : g8 < wr.heap.size := World.block_lt_of_cell? _ _ y0
        have ldb : db < wr.heap.size := World.block_lt_of_cell? _ _ dd0
        have lbb : bb < wr.heap.size := World.block_lt_of_cell? _ _ bb0
        go_upto_region 16 with fail
        obtain ⟨X1, hX1⟩ : ∃ X : World, X = wr.alloc (.cells #[.int .i64 px, .int .i64 py, .int .i64 pz] 23) := ⟨_, rfl⟩
        obtain ⟨pb, hpb⟩ : ∃ b, b = wr.heap.size := ⟨_, rfl⟩
        have b9 : Below wr.heap.size wr X1 := by rw [hX1]; exact n_after _ _
        have BP : Box3 X1 pb ⟨px, py, pz⟩ := by rw [hX1, hpb]; exact Box3.new wr px py pz _
        rw [← hX1, ← hpb]
        obtain ⟨p0, p1, p2, _, _, _⟩ := BP
        have y0 := c_after b9 y0
        have y1 := c_after b9 y1
        have y2 := c_after b9 y2
        have dd0 := c_after b9 dd0
        have bb0 := c_after b9 bb0
        have bb1 := c_after b9 bb1
        have bb2 := c_after b9 bb2
        have HB : Hid _ := b_step HB.out b9
        clear hX1 hpb b9 x0 x1 x2 a0 lg8 ldb lbb
        dsimp only at p0 p1 p2
        go_quiet (fail)
        go_wp2_with (fail)
        go_roundg (P.length - (i + 1))
        case rel => exact ⟨i + 1, by simp, by omega, rfl, HB.out.trans ⟨rfl, rfl, rfl, Nat.le_refl _, fun _ _ => rfl⟩⟩
        case measure => have := HG.out; omega
      · obtain rfl : i = P.length := by omega
        go_wp2_with (fail)
        go_ret
        exact ⟨rfl, b_step hD.out HB.out⟩
  · have WY : Way 1 ⟨0, 0, 4294967296, 0⟩ true false true := way_y
    have HQ1 : Hid _ := place_diag ⟨0, 0, 4294967296, 0⟩ WY.w WY.d P A E HPn.out HPi.out HAt.out HEt.out hPl HAl.out.1 HAl.out.2 sr
    have HQ2 : Hid _ := place_diag ⟨0, 0, 4294967296, 0⟩ WY.w WY.d (P.map (Pt.flip true false true)) (A.map (Pt.flip true false true)) (E.map (Pt.flip true false true)) (by rw [List.length_map]; exact HPn.out) (fun p hp => by obtain ⟨x, hx, rfl⟩ := List.mem_map.1 hp; rw [flip_in]; exact HPi.out x hx) (fun p hp => by obtain ⟨x, hx, rfl⟩ := List.mem_map.1 hp; exact ⟨flip_ne (HAt.out x hx).1, flip_short (HAt.out x hx).1 (HAt.out x hx).2⟩) (fun p hp => by obtain ⟨x, hx, rfl⟩ := List.mem_map.1 hp; exact ⟨flip_ne (HEt.out x hx).1, flip_short (HEt.out x hx).1 (HEt.out x hx).2⟩) (by rw [List.length_map]; exact hPl) (by rw [List.length_map]; exact HAl.out.1) (by rw [List.length_map]; exact HAl.out.2) sr
    simp only [map_flip_flip, List.length_map] at HQ2
    go_upto_region 8 with fail
    obtain ⟨Y, hY⟩ : ∃ Y : World, Y = (((w'.alloc (.cells #[.int .i64 0, .int .i64 4294967296, .int .i64 0, .int .i64 0, .int .i64 0, .int .i64 0, .int .i64 4294967296, .int .i64 0, .int .i64 0, .int .i64 0, .int .i64 0, .int .i64 4294967296] 43)).alloc (.cells #[.int .i64 0, .int .i64 0, .int .i64 4294967296, .int .i64 0] 43)).alloc (.cells #[.int .i64 1, .int .i64 (-1), .int .i64 (-1), .int .i64 (-1), .int .i64 1, .int .i64 (-1), .int .i64 (-1), .int .i64 (-1), .int .i64 1] 23)).alloc (.cells #[.int .i64 (-1), .int .i64 1, .int .i64 (-1)] 23) := ⟨_, rfl⟩
    obtain ⟨qb, hqb⟩ : ∃ b, b = w'.heap.size + 1 := ⟨_, rfl⟩
    obtain ⟨bb, hbb⟩ : ∃ b, b = w'.heap.size + 1 + 1 + 1 := ⟨_, rfl⟩
    have b9 : Below w'.heap.size w' Y := by rw [hY]; exact b_step (b_step (b_step (n_after _ _) (n_after _ _)) (n_after _ _)) (n_after _ _)
    have CQ : Hid (Cells Y qb [.int .i64 0, .int .i64 0, .int .i64 4294967296, .int .i64 0]) := by show Cells _ _ _; rw [hY, hqb]; have h9 := ((Cells.new (w'.alloc (.cells #[.int .i64 0, .int .i64 4294967296, .int .i64 0, .int .i64 0, .int .i64 0, .int .i64 0, .int .i64 4294967296, .int .i64 0, .int .i64 0, .int .i64 0, .int .i64 0, .int .i64 4294967296] 43)) [.int .i64 0, .int .i64 0, .int .i64 4294967296, .int .i64 0] 43).step (n_after _ (.cells #[.int .i64 1, .int .i64 (-1), .int .i64 (-1), .int .i64 (-1), .int .i64 1, .int .i64 (-1), .int .i64 (-1), .int .i64 (-1), .int .i64 1] 23))).step (n_after _ (.cells #[.int .i64 (-1), .int .i64 1, .int .i64 (-1)] 23)); rw [World.size_alloc] at h9; exact h9
    have CB : Hid (Cells Y bb [.int .i64 (-1), .int .i64 1, .int .i64 (-1)]) := by show Cells _ _ _; rw [hY, hbb]; have h9 := Cells.new (((w'.alloc (.cells #[.int .i64 0, .int .i64 4294967296, .int .i64 0, .int .i64 0, .int .i64 0, .int .i64 0, .int .i64 4294967296, .int .i64 0, .int .i64 0, .int .i64 0, .int .i64 0, .int .i64 4294967296] 43)).alloc (.cells #[.int .i64 0, .int .i64 0, .int .i64 4294967296, .int .i64 0] 43)).alloc (.cells #[.int .i64 1, .int .i64 (-1), .int .i64 (-1), .int .i64 (-1), .int .i64 1, .int .i64 (-1), .int .i64 (-1), .int .i64 (-1), .int .i64 1] 23)) [.int .i64 (-1), .int .i64 1, .int .i64 (-1)] 23; rw [World.size_alloc, World.size_alloc, World.size_alloc] at h9; exact h9
    rw [← hY, ← hbb, ← hqb]
    have CC : Hid _ := Cells.step CC.out b9
    have LP : Hid _ := LP.out.below b9
    have LA : Hid _ := LA.out.below b9
    have LE : Hid _ := LE.out.below b9
    have hD : Hid _ := b_step hD.out b9
    clear hY hqb hbb b9 d0 d1 d2 d3 hbX
    have d0 := (CC.out 0 _ rfl).1
    have d1 := (CC.out 1 _ rfl).1
    have d2 := (CC.out 2 _ rfl).1
    have d3 := (CC.out 3 _ rfl).1
    have q0 := (CQ.out 0 _ rfl).1
    have q1 := (CQ.out 1 _ rfl).1
    have q2 := (CQ.out 2 _ rfl).1
    have q3 := (CQ.out 3 _ rfl).1
    go_wp2_with (fail)
    refine Calls.mono (HQ1.out _ _ _ _ _ _ _ LP.out LA.out LE.out) ?_
    clear HQ1 d0 d1 d2 d3 q0 q1 q2 q3
    rintro e Y1 ⟨o1, k1, o2, k2, o3, k3, rfl, HL1, hb⟩
    go_upto_region 9 with fail
    obtain ⟨Z1, hZ1⟩ : ∃ Z : World, Z = Y1.alloc (.cells #[.slice o1 P.length k1, .slice o2 A.length k2, .slice o3 E.length k3, .int .i64 sr] 35) := ⟨_, rfl⟩
    obtain ⟨db, hdb⟩ : ∃ b, b = Y1.heap.size := ⟨_, rfl⟩
    have b9 : Below Y1.heap.size Y1 Z1 := by rw [hZ1]; exact n_after _ _
    have CD : Hid (Cells Z1 db [.slice o1 P.length k1, .slice o2 A.length k2, .slice o3 E.length k3, .int .i64 sr]) := by show Cells _ _ _; rw [hZ1, hdb]; exact Cells.new _ _ _
    rw [← hZ1, ← hdb]
    have b8 := b_step hb b9
    have CC : Hid _ := Cells.step CC.out b8
    have CQ : Hid _ := Cells.step CQ.out b8
    have CB : Hid _ := Cells.step CB.out b8
    have LP : Hid _ := LP.out.below b8
    have LE : Hid _ := LE.out.below b8
    have hD : Hid _ := b_step hD.out b8
    have HL1 : Hid _ := And.intro (HL1.out.1.below b9) (And.intro (HL1.out.2.1.below b9) (HL1.out.2.2.below b9))
    clear hZ1 hdb b9 b8 hb LA
    have d0 := (CD.out 0 _ rfl).1
    have d1 := (CD.out 1 _ rfl).1
    have d2 := (CD.out 2 _ rfl).1
    have d3 := (CD.out 3 _ rfl).1
    have q0 := (CQ.out 0 _ rfl).1
    have q1 := (CQ.out 1 _ rfl).1
    have q2 := (CQ.out 2 _ rfl).1
    have q3 := (CQ.out 3 _ rfl).1
    go_wp2_with (fail)
    refine Calls.mono (HQ2.out _ _ _ _ _ _ _ HL1.out.1 HL1.out.2.1 HL1.out.2.2) ?_
    clear HQ2 d0 d1 d2 d3 q0 q1 q2 q3 CQ
    rintro e Y2 ⟨o4, k4, o5, k5, o6, k6, rfl, HL2, hb⟩
    go_upto_region 10 with fail
    obtain ⟨Z2, hZ2⟩ : ∃ Z : World, Z = Y2.alloc (.cells #[.slice o4 P.length k4, .slice o5 A.length k5, .slice o6 E.length k6, .int .i64 sr] 35) := ⟨_, rfl⟩
    obtain ⟨eb, heb⟩ : ∃ b, b = Y2.heap.size := ⟨_, rfl⟩
    have b9 : Below Y2.heap.size Y2 Z2 := by rw [hZ2]; exact n_after _ _
    have CE : Hid (Cells Z2 eb [.slice o4 P.length k4, .slice o5 A.length k5, .slice o6 E.length k6, .int .i64 sr]) := by show Cells _ _ _; rw [hZ2, heb]; exact Cells.new _ _ _
    rw [← hZ2, ← heb]
    have b8 := b_step hb b9
    have CC : Hid _ := Cells.step CC.out b8
    have CB : Hid _ := Cells.step CB.out b8
    have CD : Hid _ := Cells.step CD.out b8
    have LP : Hid _ := LP.out.below b8
    have LE : Hid _ := LE.out.below b8
    have hD : Hid _ := b_step hD.out b8
    have LD : Hid _ := HL1.out.1.below b8
    have LP2 : Hid _ := HL2.out.1.below b9
    have LE2 : Hid _ := HL2.out.2.2.below b9
    clear hZ2 heb b9 b8 hb HL1 HL2
    have d0 := (CD.out 0 _ rfl).1
    have x0 := (CC.out 0 _ rfl).1
    have y0 := (CE.out 0 _ rfl).1
    have HX : Hid _ := points_same6 _ _ P Z2 LP2.out LP.out
    go_wp2_with (fail)
    refine Calls.mono HX.out ?_
    clear HX d0 x0 y0 LP2
    rintro e Z3 ⟨rfl, hb⟩
    have CC : Hid _ := Cells.step CC.out hb
    have CB : Hid _ := Cells.step CB.out hb
    have CD : Hid _ := Cells.step CD.out hb
    have CE : Hid _ := Cells.step CE.out hb
    have LP : Hid _ := LP.out.below hb
    have LD : Hid _ := LD.out.below hb
    have hD : Hid _ := b_step hD.out hb
    have HX : Hid _ := points_same6 _ _ E Z3 (LE2.out.below hb) (LE.out.below hb)
    clear LE LE2 hb
    have x2 := (CC.out 2 _ rfl).1
    have y2 := (CE.out 2 _ rfl).1
    go_wp2_with (fail)
    refine Calls.mono HX.out ?_
    clear HX x2 y2 CE
    rintro e Z4 ⟨rfl, hb⟩
    have CC : Hid _ := Cells.step CC.out hb
    have CB : Hid _ := Cells.step CB.out hb
    have CD : Hid _ := Cells.step CD.out hb
    have LP : Hid _ := LP.out.below hb
    have LD : Hid _ := LD.out.below hb
    have hD : Hid _ := b_step hD.out hb
    clear hb
    go_wp2_with (fail)
    go_loopg [15] P.length (fun gm s wr => ∃ i : Nat, s = .int .i64 (i : Int) ∧ i ≤ P.length ∧ gm = P.length - i ∧ Hid (Below Z4.heap.size Z4 wr))
    case atStart => exact ⟨0, rfl, Nat.zero_le _, rfl, Below.refl _ _⟩
    case round =>
      obtain ⟨i, rfl, hi, hgm, HB⟩ := hrel
      have HG : Hid _ := hgm
      clear hgm
      have a0 := (Cells.step CC.out HB.out 0 _ rfl).1
      have dd0 := (Cells.step CD.out HB.out 0 _ rfl).1
      have bb0 := (Cells.step CB.out HB.out 0 _ rfl).1
      have bb1 := (Cells.step CB.out HB.out 1 _ rfl).1
      have bb2 := (Cells.step CB.out HB.out 2 _ rfl).1
      by_cases hit : i < P.length
      · obtain ⟨o7, c7, e7, _, k9, hc7⟩ := (LP.out.below HB.out).form
        obtain ⟨o8, c8, e8, _, k10, hc8⟩ := (LD.out.below HB.out).form
        simp only [Value.slice.injEq, List.length_map, true_and] at e7 e8
        obtain ⟨rfl, rfl⟩ := e7
        obtain ⟨rfl, rfl⟩ := e8
        obtain ⟨g7, f7, rfl, x0, x1, x2⟩ := hc7 i hit
        obtain ⟨g8, f8, rfl, y0, y1, y2⟩ := hc8 i (by rw [List.length_map]; exact hit)
        have ep : pt (P.map (Pt.flip true false true)) i = (pt P i).flip true false true := by unfold pt; simp [hit]
        rw [ep] at y0 y1 y2
        have hin := (Pt.inB_iff _ _).1 (HPi.out _ (pt_mem hit))
        unfold Pt.flip at y0 y1 y2
        simp only [sgn, cond_true, cond_false] at y0 y1 y2
        clear ep hc7 hc8
        generalize (pt P i).x = px at *
        generalize (pt P i).y = py at *
        generalize (pt P i).z = pz at *
        have w0_ : IntKind.i64.wrap (1 * px) = px := by rw [IntKind.wrap_i64]; omega
        have w1_ : IntKind.i64.wrap (1 * py) = py := by rw [IntKind.wrap_i64]; omega
        have w2_ : IntKind.i64.wrap (1 * pz) = pz := by rw [IntKind.wrap_i64]; omega
        have w3_ : IntKind.i64.wrap (-1 * px) = -px := by rw [IntKind.wrap_i64]; omega
        have w4_ : IntKind.i64.wrap (-1 * py) = -py := by rw [IntKind.wrap_i64]; omega
        have w5_ : IntKind.i64.wrap (-1 * pz) = -pz := by rw [IntKind.wrap_i64]; omega
        have n0_ : IntKind.i64.wrap (-px) = -px := by rw [IntKind.wrap_i64]; omega
        have n1_ : IntKind.i64.wrap (-py) = -py := by rw [IntKind.wrap_i64]; omega
        have n2_ : IntKind.i64.wrap (-pz) = -pz := by rw [IntKind.wrap_i64]; omega
        have hin' := hin
        clear hin
        have lg8 : g8 < wr.heap.size := World.block_lt_of_cell? _ _ y0
        have ldb : db < wr.heap.size := World.block_lt_of_cell? _ _ dd0
        have lbb : bb < wr.heap.size := World.block_lt_of_cell? _ _ bb0
        go_upto_region 16 with fail
        obtain ⟨X1, hX1⟩ : ∃ X : World, X = wr.alloc (.cells #[.int .i64 px, .int .i64 py, .int .i64 pz] 23) := ⟨_, rfl⟩
        obtain ⟨pb, hpb⟩ : ∃ b, b = wr.heap.size := ⟨_, rfl⟩
        have b9 : Below wr.heap.size wr X1 := by rw [hX1]; exact n_after _ _
        have BP : Box3 X1 pb ⟨px, py, pz⟩ := by rw [hX1, hpb]; exact Box3.new wr px py pz _
        rw [← hX1, ← hpb]
        obtain ⟨p0, p1, p2, _, _, _⟩ := BP
        have y0 := c_after b9 y0
        have y1 := c_after b9 y1
        have y2 := c_after b9 y2
        have dd0 := c_after b9 dd0
        have bb0 := c_after b9 bb0
        have bb1 := c_after b9 bb1
        have bb2 := c_after b9 bb2
        have HB : Hid _ := b_step HB.out b9
        clear hX1 hpb b9 x0 x1 x2 a0 lg8 ldb lbb
        dsimp only at p0 p1 p2
        go_quiet (fail)
        go_wp2_with (fail)
        go_roundg (P.length - (i + 1))
        case rel => exact ⟨i + 1, by simp, by omega, rfl, HB.out.trans ⟨rfl, rfl, rfl, Nat.le_refl _, fun _ _ => rfl⟩⟩
        case measure => have := HG.out; omega
      · obtain rfl : i = P.length := by omega
        go_wp2_with (fail)
        go_ret
        exact ⟨rfl, b_step hD.out HB.out⟩
  · have WY : Way 2 ⟨0, 0, 0, 4294967296⟩ true true false := way_z
    have HQ1 : Hid _ := place_diag ⟨0, 0, 0, 4294967296⟩ WY.w WY.d P A E HPn.out HPi.out HAt.out HEt.out hPl HAl.out.1 HAl.out.2 sr
    have HQ2 : Hid _ := place_diag ⟨0, 0, 0, 4294967296⟩ WY.w WY.d (P.map (Pt.flip true true false)) (A.map (Pt.flip true true false)) (E.map (Pt.flip true true false)) (by rw [List.length_map]; exact HPn.out) (fun p hp => by obtain ⟨x, hx, rfl⟩ := List.mem_map.1 hp; rw [flip_in]; exact HPi.out x hx) (fun p hp => by obtain ⟨x, hx, rfl⟩ := List.mem_map.1 hp; exact ⟨flip_ne (HAt.out x hx).1, flip_short (HAt.out x hx).1 (HAt.out x hx).2⟩) (fun p hp => by obtain ⟨x, hx, rfl⟩ := List.mem_map.1 hp; exact ⟨flip_ne (HEt.out x hx).1, flip_short (HEt.out x hx).1 (HEt.out x hx).2⟩) (by rw [List.length_map]; exact hPl) (by rw [List.length_map]; exact HAl.out.1) (by rw [List.length_map]; exact HAl.out.2) sr
    simp only [map_flip_flip, List.length_map] at HQ2
    go_upto_region 8 with fail
    obtain ⟨Y, hY⟩ : ∃ Y : World, Y = (((w'.alloc (.cells #[.int .i64 0, .int .i64 4294967296, .int .i64 0, .int .i64 0, .int .i64 0, .int .i64 0, .int .i64 4294967296, .int .i64 0, .int .i64 0, .int .i64 0, .int .i64 0, .int .i64 4294967296] 43)).alloc (.cells #[.int .i64 0, .int .i64 0, .int .i64 0, .int .i64 4294967296] 43)).alloc (.cells #[.int .i64 1, .int .i64 (-1), .int .i64 (-1), .int .i64 (-1), .int .i64 1, .int .i64 (-1), .int .i64 (-1), .int .i64 (-1), .int .i64 1] 23)).alloc (.cells #[.int .i64 (-1), .int .i64 (-1), .int .i64 1] 23) := ⟨_, rfl⟩
    obtain ⟨qb, hqb⟩ : ∃ b, b = w'.heap.size + 1 := ⟨_, rfl⟩
    obtain ⟨bb, hbb⟩ : ∃ b, b = w'.heap.size + 1 + 1 + 1 := ⟨_, rfl⟩
    have b9 : Below w'.heap.size w' Y := by rw [hY]; exact b_step (b_step (b_step (n_after _ _) (n_after _ _)) (n_after _ _)) (n_after _ _)
    have CQ : Hid (Cells Y qb [.int .i64 0, .int .i64 0, .int .i64 0, .int .i64 4294967296]) := by show Cells _ _ _; rw [hY, hqb]; have h9 := ((Cells.new (w'.alloc (.cells #[.int .i64 0, .int .i64 4294967296, .int .i64 0, .int .i64 0, .int .i64 0, .int .i64 0, .int .i64 4294967296, .int .i64 0, .int .i64 0, .int .i64 0, .int .i64 0, .int .i64 4294967296] 43)) [.int .i64 0, .int .i64 0, .int .i64 0, .int .i64 4294967296] 43).step (n_after _ (.cells #[.int .i64 1, .int .i64 (-1), .int .i64 (-1), .int .i64 (-1), .int .i64 1, .int .i64 (-1), .int .i64 (-1), .int .i64 (-1), .int .i64 1] 23))).step (n_after _ (.cells #[.int .i64 (-1), .int .i64 (-1), .int .i64 1] 23)); rw [World.size_alloc] at h9; exact h9
    have CB : Hid (Cells Y bb [.int .i64 (-1), .int .i64 (-1), .int .i64 1]) := by show Cells _ _ _; rw [hY, hbb]; have h9 := Cells.new (((w'.alloc (.cells #[.int .i64 0, .int .i64 4294967296, .int .i64 0, .int .i64 0, .int .i64 0, .int .i64 0, .int .i64 4294967296, .int .i64 0, .int .i64 0, .int .i64 0, .int .i64 0, .int .i64 4294967296] 43)).alloc (.cells #[.int .i64 0, .int .i64 0, .int .i64 0, .int .i64 4294967296] 43)).alloc (.cells #[.int .i64 1, .int .i64 (-1), .int .i64 (-1), .int .i64 (-1), .int .i64 1, .int .i64 (-1), .int .i64 (-1), .int .i64 (-1), .int .i64 1] 23)) [.int .i64 (-1), .int .i64 (-1), .int .i64 1] 23; rw [World.size_alloc, World.size_alloc, World.size_alloc] at h9; exact h9
    rw [← hY, ← hbb, ← hqb]
    have CC : Hid _ := Cells.step CC.out b9
    have LP : Hid _ := LP.out.below b9
    have LA : Hid _ := LA.out.below b9
    have LE : Hid _ := LE.out.below b9
    have hD : Hid _ := b_step hD.out b9
    clear hY hqb hbb b9 d0 d1 d2 d3 hbX
    have d0 := (CC.out 0 _ rfl).1
    have d1 := (CC.out 1 _ rfl).1
    have d2 := (CC.out 2 _ rfl).1
    have d3 := (CC.out 3 _ rfl).1
    have q0 := (CQ.out 0 _ rfl).1
    have q1 := (CQ.out 1 _ rfl).1
    have q2 := (CQ.out 2 _ rfl).1
    have q3 := (CQ.out 3 _ rfl).1
    go_wp2_with (fail)
    refine Calls.mono (HQ1.out _ _ _ _ _ _ _ LP.out LA.out LE.out) ?_
    clear HQ1 d0 d1 d2 d3 q0 q1 q2 q3
    rintro e Y1 ⟨o1, k1, o2, k2, o3, k3, rfl, HL1, hb⟩
    go_upto_region 9 with fail
    obtain ⟨Z1, hZ1⟩ : ∃ Z : World, Z = Y1.alloc (.cells #[.slice o1 P.length k1, .slice o2 A.length k2, .slice o3 E.length k3, .int .i64 sr] 35) := ⟨_, rfl⟩
    obtain ⟨db, hdb⟩ : ∃ b, b = Y1.heap.size := ⟨_, rfl⟩
    have b9 : Below Y1.heap.size Y1 Z1 := by rw [hZ1]; exact n_after _ _
    have CD : Hid (Cells Z1 db [.slice o1 P.length k1, .slice o2 A.length k2, .slice o3 E.length k3, .int .i64 sr]) := by show Cells _ _ _; rw [hZ1, hdb]; exact Cells.new _ _ _
    rw [← hZ1, ← hdb]
    have b8 := b_step hb b9
    have CC : Hid _ := Cells.step CC.out b8
    have CQ : Hid _ := Cells.step CQ.out b8
    have CB : Hid _ := Cells.step CB.out b8
    have LP : Hid _ := LP.out.below b8
    have LE : Hid _ := LE.out.below b8
    have hD : Hid _ := b_step hD.out b8
    have HL1 : Hid _ := And.intro (HL1.out.1.below b9) (And.intro (HL1.out.2.1.below b9) (HL1.out.2.2.below b9))
    clear hZ1 hdb b9 b8 hb LA
    have d0 := (CD.out 0 _ rfl).1
    have d1 := (CD.out 1 _ rfl).1
    have d2 := (CD.out 2 _ rfl).1
    have d3 := (CD.out 3 _ rfl).1
    have q0 := (CQ.out 0 _ rfl).1
    have q1 := (CQ.out 1 _ rfl).1
    have q2 := (CQ.out 2 _ rfl).1
    have q3 := (CQ.out 3 _ rfl).1
    go_wp2_with (fail)
    refine Calls.mono (HQ2.out _ _ _ _ _ _ _ HL1.out.1 HL1.out.2.1 HL1.out.2.2) ?_
    clear HQ2 d0 d1 d2 d3 q0 q1 q2 q3 CQ
    rintro e Y2 ⟨o4, k4, o5, k5, o6, k6, rfl, HL2, hb⟩
    go_upto_region 10 with fail
    obtain ⟨Z2, hZ2⟩ : ∃ Z : World, Z = Y2.alloc (.cells #[.slice o4 P.length k4, .slice o5 A.length k5, .slice o6 E.length k6, .int .i64 sr] 35) := ⟨_, rfl⟩
    obtain ⟨eb, heb⟩ : ∃ b, b = Y2.heap.size := ⟨_, rfl⟩
    have b9 : Below Y2.heap.size Y2 Z2 := by rw [hZ2]; exact n_after _ _
    have CE : Hid (Cells Z2 eb [.slice o4 P.length k4, .slice o5 A.length k5, .slice o6 E.length k6, .int .i64 sr]) := by show Cells _ _ _; rw [hZ2, heb]; exact Cells.new _ _ _
    rw [← hZ2, ← heb]
    have b8 := b_step hb b9
    have CC : Hid _ := Cells.step CC.out b8
    have CB : Hid _ := Cells.step CB.out b8
    have CD : Hid _ := Cells.step CD.out b8
    have LP : Hid _ := LP.out.below b8
    have LE : Hid _ := LE.out.below b8
    have hD : Hid _ := b_step hD.out b8
    have LD : Hid _ := HL1.out.1.below b8
    have LP2 : Hid _ := HL2.out.1.below b9
    have LE2 : Hid _ := HL2.out.2.2.below b9
    clear hZ2 heb b9 b8 hb HL1 HL2
    have d0 := (CD.out 0 _ rfl).1
    have x0 := (CC.out 0 _ rfl).1
    have y0 := (CE.out 0 _ rfl).1
    have HX : Hid _ := points_same6 _ _ P Z2 LP2.out LP.out
    go_wp2_with (fail)
    refine Calls.mono HX.out ?_
    clear HX d0 x0 y0 LP2
    rintro e Z3 ⟨rfl, hb⟩
    have CC : Hid _ := Cells.step CC.out hb
    have CB : Hid _ := Cells.step CB.out hb
    have CD : Hid _ := Cells.step CD.out hb
    have CE : Hid _ := Cells.step CE.out hb
    have LP : Hid _ := LP.out.below hb
    have LD : Hid _ := LD.out.below hb
    have hD : Hid _ := b_step hD.out hb
    have HX : Hid _ := points_same6 _ _ E Z3 (LE2.out.below hb) (LE.out.below hb)
    clear LE LE2 hb
    have x2 := (CC.out 2 _ rfl).1
    have y2 := (CE.out 2 _ rfl).1
    go_wp2_with (fail)
    refine Calls.mono HX.out ?_
    clear HX x2 y2 CE
    rintro e Z4 ⟨rfl, hb⟩
    have CC : Hid _ := Cells.step CC.out hb
    have CB : Hid _ := Cells.step CB.out hb
    have CD : Hid _ := Cells.step CD.out hb
    have LP : Hid _ := LP.out.below hb
    have LD : Hid _ := LD.out.below hb
    have hD : Hid _ := b_step hD.out hb
    clear hb
    go_wp2_with (fail)
    go_loopg [15] P.length (fun gm s wr => ∃ i : Nat, s = .int .i64 (i : Int) ∧ i ≤ P.length ∧ gm = P.length - i ∧ Hid (Below Z4.heap.size Z4 wr))
    case atStart => exact ⟨0, rfl, Nat.zero_le _, rfl, Below.refl _ _⟩
    case round =>
      obtain ⟨i, rfl, hi, hgm, HB⟩ := hrel
      have HG : Hid _ := hgm
      clear hgm
      have a0 := (Cells.step CC.out HB.out 0 _ rfl).1
      have dd0 := (Cells.step CD.out HB.out 0 _ rfl).1
      have bb0 := (Cells.step CB.out HB.out 0 _ rfl).1
      have bb1 := (Cells.step CB.out HB.out 1 _ rfl).1
      have bb2 := (Cells.step CB.out HB.out 2 _ rfl).1
      by_cases hit : i < P.length
      · obtain ⟨o7, c7, e7, _, k9, hc7⟩ := (LP.out.below HB.out).form
        obtain ⟨o8, c8, e8, _, k10, hc8⟩ := (LD.out.below HB.out).form
        simp only [Value.slice.injEq, List.length_map, true_and] at e7 e8
        obtain ⟨rfl, rfl⟩ := e7
        obtain ⟨rfl, rfl⟩ := e8
        obtain ⟨g7, f7, rfl, x0, x1, x2⟩ := hc7 i hit
        obtain ⟨g8, f8, rfl, y0, y1, y2⟩ := hc8 i (by rw [List.length_map]; exact hit)
        have ep : pt (P.map (Pt.flip true true false)) i = (pt P i).flip true true false := by unfold pt; simp [hit]
        rw [ep] at y0 y1 y2
        have hin := (Pt.inB_iff _ _).1 (HPi.out _ (pt_mem hit))
        unfold Pt.flip at y0 y1 y2
        simp only [sgn, cond_true, cond_false] at y0 y1 y2
        clear ep hc7 hc8
        generalize (pt P i).x = px at *
        generalize (pt P i).y = py at *
        generalize (pt P i).z = pz at *
        have w0_ : IntKind.i64.wrap (1 * px) = px := by rw [IntKind.wrap_i64]; omega
        have w1_ : IntKind.i64.wrap (1 * py) = py := by rw [IntKind.wrap_i64]; omega
        have w2_ : IntKind.i64.wrap (1 * pz) = pz := by rw [IntKind.wrap_i64]; omega
        have w3_ : IntKind.i64.wrap (-1 * px) = -px := by rw [IntKind.wrap_i64]; omega
        have w4_ : IntKind.i64.wrap (-1 * py) = -py := by rw [IntKind.wrap_i64]; omega
        have w5_ : IntKind.i64.wrap (-1 * pz) = -pz := by rw [IntKind.wrap_i64]; omega
        have n0_ : IntKind.i64.wrap (-px) = -px := by rw [IntKind.wrap_i64]; omega
        have n1_ : IntKind.i64.wrap (-py) = -py := by rw [IntKind.wrap_i64]; omega
        have n2_ : IntKind.i64.wrap (-pz) = -pz := by rw [IntKind.wrap_i64]; omega
        have hin' := hin
        clear hin
        have lg8 : g8 < wr.heap.size := World.block_lt_of_cell? _ _ y0
        have ldb : db < wr.heap.size := World.block_lt_of_cell? _ _ dd0
        have lbb : bb < wr.heap.size := World.block_lt_of_cell? _ _ bb0
        go_upto_region 16 with fail
        obtain ⟨X1, hX1⟩ : ∃ X : World, X = wr.alloc (.cells #[.int .i64 px, .int .i64 py, .int .i64 pz] 23) := ⟨_, rfl⟩
        obtain ⟨pb, hpb⟩ : ∃ b, b = wr.heap.size := ⟨_, rfl⟩
        have b9 : Below wr.heap.size wr X1 := by rw [hX1]; exact n_after _ _
        have BP : Box3 X1 pb ⟨px, py, pz⟩ := by rw [hX1, hpb]; exact Box3.new wr px py pz _
        rw [← hX1, ← hpb]
        obtain ⟨p0, p1, p2, _, _, _⟩ := BP
        have y0 := c_after b9 y0
        have y1 := c_after b9 y1
        have y2 := c_after b9 y2
        have dd0 := c_after b9 dd0
        have bb0 := c_after b9 bb0
        have bb1 := c_after b9 bb1
        have bb2 := c_after b9 bb2
        have HB : Hid _ := b_step HB.out b9
        clear hX1 hpb b9 x0 x1 x2 a0 lg8 ldb lbb
        dsimp only at p0 p1 p2
        go_quiet (fail)
        go_wp2_with (fail)
        go_roundg (P.length - (i + 1))
        case rel => exact ⟨i + 1, by simp, by omega, rfl, HB.out.trans ⟨rfl, rfl, rfl, Nat.le_refl _, fun _ _ => rfl⟩⟩
        case measure => have := HG.out; omega
      · obtain rfl : i = P.length := by omega
        go_wp2_with (fail)
        go_ret
        exact ⟨rfl, b_step hD.out HB.out⟩

/-! ### The row's step, after the guide's template -/
set_option maxRecDepth 100000 in
theorem lifted (os : Os) (started : os.Started) (H : Type) (enc : TypeId × Value → H) :
    ReturnsInHanded {} Try.checked os 4 .any (Rows.poseHalfSpec.pre6 enc Try.prog Try.f4 Rows.poseHalfRow.domain false) (Rows.poseHalfSpec.post enc Try.prog Try.f4 false true false false) := by
  refine returnsInHanded_of_change (C := Try.checked) own started (by kernel_rfl) Try.func4
    (ChangeSpec.witness6 (enc := enc) (C := Try.checked) false ⟨#[], #[.agg #[.int .i64 0, .int .i64 0, .int .i64 0, .int .i64 0, .int .i64 0, .slice none 0 0], .int .i64 0], []⟩ 8 (by kernel_rfl) (by kernel_rfl) (by kernel_rfl) (by kernel_rfl)) ?_
  intro W base args ds gs before hval0 hW hcnd _
  have hval : ∀ (j : Nat) t v, Try.f4.params[j]? = some t → args[j]? = some v → Value.okWide Try.prog W .any base t v := hval0
  have hW' := hW
  obtain ⟨p, q, hA0, hV, rfl, hfz, hnd⟩ := hW
  have hA : DataW.TrodAll enc Try.prog W 0 (fun _ => true) true Try.f4.params.toList args.toList ds p := hA0
  rw [Try.params4] at hA hval
  obtain ⟨v0, vs0, d0, ds0, p0, q0, hargs, rfl, rfl, h0, r0⟩ := trodAll_cons hA
  obtain ⟨v1, vs1, d1, ds1, p1, q1, rfl, rfl, rfl, h1, r1⟩ := trodAll_cons r0
  obtain ⟨rfl, rfl, rfl⟩ := trodAll_nil r1
  obtain rfl : args = #[v0, v1] := by cases args; simp_all
  obtain ⟨rfl, rfl⟩ := trodVars_none hV
  have k0 := h0
  have lt0 : ∀ x ∈ p0, x.block < W.heap.size := by obtain ⟨m, hm⟩ := k0; exact DataW.trod_lt m _ _ _ hm
  obtain ⟨k, rr, x, y, z, o, L, c, rfl, hL, hF, wk, wr, wx, wy, wz⟩ := open_raw2 (hval 0 33 v0 rfl rfl) h0
  have bk_ := bounds_i64 wk
  have br_ := bounds_i64 wr
  have bx_ := bounds_i64 wx
  have by_ := bounds_i64 wy
  have bz_ := bounds_i64 wz
  obtain ⟨a1, rfl, rfl, rfl, w1⟩ := open_int Try.underlying3 (hval 1 3 v1 rfl rfl) h1
  have b1 := bounds_i64 w1
  clear hA0 hval0
  refine (walk k rr x y z o L c a1 W hL hF (by omega) (by omega) (by omega) (by omega) (by omega) (by omega)).mono fun e W' ⟨he, bel⟩ => ?_
  subst he
  exact ⟨_, rfl, _, _, _, [], _, [], hW', trodAll_mk1 (shut_bool Try.underlying4 _), (trodAll_cons_mk (Below.trod laidOut (by kernel_rfl) (of_decide_eq_true (by kernel_rfl)) k0 bel lt0) (trodAll_cons_mk (shut_int Try.underlying3 w1) trodAll_mk0)), rfl, bel.frame _, fun h => by cases h⟩

theorem over : Rows.poseHalfRow.holds Try.pinned (OpenSpec.ofChange Rows.poseHalfSpec) :=
  OpenClaim.holds_of_wide 4 Try.f4 rfl rfl rfl rfl rfl rfl rfl ⟨rfl, rfl, rfl, rfl, rfl⟩ rfl rfl rfl rfl rfl (by kernel_rfl) Try.func4 (by kernel_rfl)
    (of_decide_eq_true (by kernel_rfl)) (by unfold Func.isWrapper; first | (rw [if_pos (by decide +kernel)]; kernel_rfl) | (rw [if_neg (by decide +kernel)]; exact ⟨rfl, rfl⟩))
    (fun os started H enc _ => lifted os started H enc)

end poseHalf

theorem poseHalf_holds : Rows.PoseHalfSaid := poseHalf.over
#print axioms poseHalf_holds
end Go.Proofs.Ytocdompopadanaa
