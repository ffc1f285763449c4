/- PoseBoxes' walk, where chapter 6's examples are given: boxes meet, grow and join as the document says. -/
import Derived.Test.YtocdompopadanaaPsC
namespace Go.Proofs.Ytocdompopadanaa
open Go.RowKit Go.Shelf
set_option linter.unusedVariables false

theorem meet_comm (a b : Bx) : b.meet a = a.meet b := by unfold Bx.meet; exact Bool.and_comm _ _
theorem meet_join (a b c : Bx) (h : c.meet a = true) : c.meet (a.join b) = true := by
  unfold Bx.meet Bx.join Pt.le Pt.lesser Pt.greater lowI highI at *
  simp only [Bool.and_eq_true, decide_eq_true_eq] at h ⊢
  refine ⟨⟨?_, ?_, ?_⟩, ?_, ?_, ?_⟩ <;> (split <;> omega)
theorem boxes_ex (a b c : Bx) (n : Int) : ∃ (m1 m2 m3 : Bool) (jj0 jj1 jj2 jj3 jj4 jj5 gg0 gg1 gg2 gg3 gg4 gg5 : Int), (m2 = true → m3 = true) ∧
    (∀ w, Calls Try.prog 7 #[a.v, b.v] w fun e W => e = .returned (.bool m1) ∧ Below w.heap.size w W) ∧
    (∀ w, Calls Try.prog 8 #[a.v, b.v] w fun e W => e = .returned (.bool m1) ∧ Below w.heap.size w W) ∧
    (∀ w, Calls Try.prog 7 #[b.v, a.v] w fun e W => e = .returned (.bool m1) ∧ Below w.heap.size w W) ∧
    (∀ w, Calls Try.prog 9 #[a.v, .int .i64 n] w fun e W => e = .returned (.agg #[.int .i64 gg0, .int .i64 gg1, .int .i64 gg2, .int .i64 gg3, .int .i64 gg4, .int .i64 gg5]) ∧ Below w.heap.size w W) ∧
    (∀ w, Calls Try.prog 10 #[a.v, .int .i64 n] w fun e W => e = .returned (.agg #[.int .i64 gg0, .int .i64 gg1, .int .i64 gg2, .int .i64 gg3, .int .i64 gg4, .int .i64 gg5]) ∧ Below w.heap.size w W) ∧
    (∀ w, Calls Try.prog 6 #[a.v, b.v] w fun e W => e = .returned (.agg #[.int .i64 jj0, .int .i64 jj1, .int .i64 jj2, .int .i64 jj3, .int .i64 jj4, .int .i64 jj5]) ∧ Below w.heap.size w W) ∧
    (∀ w, Calls Try.prog 11 #[a.v, b.v] w fun e W => e = .returned (.agg #[.int .i64 jj0, .int .i64 jj1, .int .i64 jj2, .int .i64 jj3, .int .i64 jj4, .int .i64 jj5]) ∧ Below w.heap.size w W) ∧
    (∀ w, Calls Try.prog 7 #[c.v, a.v] w fun e W => e = .returned (.bool m2) ∧ Below w.heap.size w W) ∧
    (∀ w, Calls Try.prog 7 #[c.v, .agg #[.int .i64 jj0, .int .i64 jj1, .int .i64 jj2, .int .i64 jj3, .int .i64 jj4, .int .i64 jj5]] w fun e W => e = .returned (.bool m3) ∧ Below w.heap.size w W) :=
  ⟨a.meet b, c.meet a, c.meet (a.join b), _, _, _, _, _, _, _, _, _, _, _, _, meet_join a b c, fun w => meet_any a b w, fun w => rmeet_any a b w, fun w => by have := meet_any b a w; rwa [meet_comm] at this, fun w => grown_any a n w, fun w => rgrown_any a n w, fun w => join_any a b w, fun w => rjoin_any a b w, fun w => meet_any c a w, fun w => meet_any c (a.join b) w⟩
set_option maxHeartbeats 4000000 in
set_option maxRecDepth 100000 in
theorem boxes_walk (aa0 aa1 aa2 aa3 aa4 aa5 bb0 bb1 bb2 bb3 bb4 bb5 cc0 cc1 cc2 cc3 cc4 cc5 n : Int) (w0 : World) (hAW : ∀ W : World, Calls Try.prog 5 #[] W fun e W' => e = .returned (.bool true) ∧ Below W.heap.size W W') :
    Calls Try.prog 3 #[.agg #[.int .i64 aa0, .int .i64 aa1, .int .i64 aa2, .int .i64 aa3, .int .i64 aa4, .int .i64 aa5], .agg #[.int .i64 bb0, .int .i64 bb1, .int .i64 bb2, .int .i64 bb3, .int .i64 bb4, .int .i64 bb5], .agg #[.int .i64 cc0, .int .i64 cc1, .int .i64 cc2, .int .i64 cc3, .int .i64 cc4, .int .i64 cc5], .int .i64 n] w0 fun e W => e = .returned (.bool true) ∧ Below w0.heap.size w0 W := by
  obtain ⟨m1, m2, m3, jj0, jj1, jj2, jj3, jj4, jj5, gg0, gg1, gg2, gg3, gg4, gg5, hm, H1', H2', H3', H4', H5', H6', H7', H8', H9'⟩ := boxes_ex ⟨⟨aa0, aa1, aa2⟩, ⟨aa3, aa4, aa5⟩⟩ ⟨⟨bb0, bb1, bb2⟩, ⟨bb3, bb4, bb5⟩⟩ ⟨⟨cc0, cc1, cc2⟩, ⟨cc3, cc4, cc5⟩⟩ n
  unfold Bx.v at H1' H2' H3' H4' H5' H6' H7' H8' H9'
  dsimp only at H1' H2' H3' H4' H5' H6' H7' H8' H9'
  have H1 : Hid _ := H1'
  have H2 : Hid _ := H2'
  have H3 : Hid _ := H3'
  have H4 : Hid _ := H4'
  have H5 : Hid _ := H5'
  have H6 : Hid _ := H6'
  have H7 : Hid _ := H7'
  have H8 : Hid _ := H8'
  have H9 : Hid _ := H9'
  have AW : Hid _ := hAW
  have HM : Hid _ := hm
  clear H1' H2' H3' H4' H5' H6' H7' H8' H9' hAW hm
  go_enter Try.func3, Try.ntmps3
  go_upto_region 1 with fail
  obtain ⟨V0, hV⟩ : ∃ V : World, V = ((w0.alloc (.cells #[.int .i64 aa0, .int .i64 aa1, .int .i64 aa2, .int .i64 aa3, .int .i64 aa4, .int .i64 aa5] 25)).alloc (.cells #[.int .i64 bb0, .int .i64 bb1, .int .i64 bb2, .int .i64 bb3, .int .i64 bb4, .int .i64 bb5] 25)).alloc (.cells #[.int .i64 cc0, .int .i64 cc1, .int .i64 cc2, .int .i64 cc3, .int .i64 cc4, .int .i64 cc5] 25) := ⟨_, rfl⟩
  have hD : Hid (Below w0.heap.size w0 V0) := by rw [hV]; exact b_step (b_step (n_after w0 _) (n_after _ _)) (n_after _ _)
  have C1 : Hid (Cells V0 w0.heap.size [.int .i64 aa0, .int .i64 aa1, .int .i64 aa2, .int .i64 aa3, .int .i64 aa4, .int .i64 aa5]) := by rw [hV]; exact Cells.step (Cells.new w0 [.int .i64 aa0, .int .i64 aa1, .int .i64 aa2, .int .i64 aa3, .int .i64 aa4, .int .i64 aa5] _) (b_step (n_after _ _) (n_after _ _))
  have C2 : Hid (Cells V0 (w0.heap.size + 1) [.int .i64 bb0, .int .i64 bb1, .int .i64 bb2, .int .i64 bb3, .int .i64 bb4, .int .i64 bb5]) := by rw [hV]; have := Cells.step (Cells.new (w0.alloc (.cells #[.int .i64 aa0, .int .i64 aa1, .int .i64 aa2, .int .i64 aa3, .int .i64 aa4, .int .i64 aa5] 25)) [.int .i64 bb0, .int .i64 bb1, .int .i64 bb2, .int .i64 bb3, .int .i64 bb4, .int .i64 bb5] 25) (n_after _ (.cells #[.int .i64 cc0, .int .i64 cc1, .int .i64 cc2, .int .i64 cc3, .int .i64 cc4, .int .i64 cc5] 25)); rwa [World.size_alloc] at this
  have C3 : Hid (Cells V0 (w0.heap.size + 1 + 1) [.int .i64 cc0, .int .i64 cc1, .int .i64 cc2, .int .i64 cc3, .int .i64 cc4, .int .i64 cc5]) := by rw [hV]; have := Cells.new ((w0.alloc (.cells #[.int .i64 aa0, .int .i64 aa1, .int .i64 aa2, .int .i64 aa3, .int .i64 aa4, .int .i64 aa5] 25)).alloc (.cells #[.int .i64 bb0, .int .i64 bb1, .int .i64 bb2, .int .i64 bb3, .int .i64 bb4, .int .i64 bb5] 25)) [.int .i64 cc0, .int .i64 cc1, .int .i64 cc2, .int .i64 cc3, .int .i64 cc4, .int .i64 cc5] 25; rwa [World.size_alloc, World.size_alloc] at this
  rw [← hV]
  clear hV
  obtain ⟨qa, hqa⟩ : ∃ b, b = w0.heap.size := ⟨_, rfl⟩
  obtain ⟨qb, hqb⟩ : ∃ b, b = w0.heap.size + 1 := ⟨_, rfl⟩
  obtain ⟨qc, hqc⟩ : ∃ b, b = w0.heap.size + 1 + 1 := ⟨_, rfl⟩
  rw [← hqc] at C3 ⊢
  rw [← hqb] at C2 ⊢
  rw [← hqa] at C1 ⊢
  clear hqa hqb hqc
  go_wp2_with (fail)
  refine Calls.mono (AW.out _) ?_
  clear AW
  rintro e V1 ⟨rfl, h⟩
  have C1 : Hid _ := Cells.step C1.out h
  have C2 : Hid _ := Cells.step C2.out h
  have C3 : Hid _ := Cells.step C3.out h
  have hD : Hid _ := b_step hD.out h
  clear h
  have s0 := (C1.out 0 _ rfl).1
  have t0 := (C2.out 0 _ rfl).1
  have s1 := (C1.out 1 _ rfl).1
  have t1 := (C2.out 1 _ rfl).1
  have s2 := (C1.out 2 _ rfl).1
  have t2 := (C2.out 2 _ rfl).1
  have s3 := (C1.out 3 _ rfl).1
  have t3 := (C2.out 3 _ rfl).1
  have s4 := (C1.out 4 _ rfl).1
  have t4 := (C2.out 4 _ rfl).1
  have s5 := (C1.out 5 _ rfl).1
  have t5 := (C2.out 5 _ rfl).1
  go_wp2_with (fail)
  refine Calls.mono (H6.out _) ?_
  rintro e V2 ⟨rfl, h⟩
  have C1 : Hid _ := Cells.step C1.out h
  have C2 : Hid _ := Cells.step C2.out h
  have C3 : Hid _ := Cells.step C3.out h
  have hD : Hid _ := b_step hD.out h
  clear h s0 t0 s1 t1 s2 t2 s3 t3 s4 t4 s5 t5
  go_upto_region 3 with fail
  obtain ⟨V3, hV⟩ : ∃ V : World, V = V2.alloc (.cells #[.int .i64 jj0, .int .i64 jj1, .int .i64 jj2, .int .i64 jj3, .int .i64 jj4, .int .i64 jj5] 25) := ⟨_, rfl⟩
  obtain ⟨qj, hqj⟩ : ∃ b, b = V2.heap.size := ⟨_, rfl⟩
  have h : Below V2.heap.size V2 V3 := by rw [hV]; exact n_after _ _
  have C4 : Hid (Cells V3 qj [.int .i64 jj0, .int .i64 jj1, .int .i64 jj2, .int .i64 jj3, .int .i64 jj4, .int .i64 jj5]) := by rw [hV, hqj]; exact Cells.new V2 [.int .i64 jj0, .int .i64 jj1, .int .i64 jj2, .int .i64 jj3, .int .i64 jj4, .int .i64 jj5] _
  have C1 : Hid _ := Cells.step C1.out h
  have C2 : Hid _ := Cells.step C2.out h
  have C3 : Hid _ := Cells.step C3.out h
  have hD : Hid _ := b_step hD.out h
  rw [← hV, ← hqj]
  clear hV hqj h
  have s0_ := (C1.out 0 _ rfl).1
  have t0_ := (C2.out 0 _ rfl).1
  have u0_ := (C4.out 0 _ rfl).1
  have s1_ := (C1.out 1 _ rfl).1
  have t1_ := (C2.out 1 _ rfl).1
  have u1_ := (C4.out 1 _ rfl).1
  have s2_ := (C1.out 2 _ rfl).1
  have t2_ := (C2.out 2 _ rfl).1
  have u2_ := (C4.out 2 _ rfl).1
  have s3_ := (C1.out 3 _ rfl).1
  have t3_ := (C2.out 3 _ rfl).1
  have u3_ := (C4.out 3 _ rfl).1
  have s4_ := (C1.out 4 _ rfl).1
  have t4_ := (C2.out 4 _ rfl).1
  have u4_ := (C4.out 4 _ rfl).1
  have s5_ := (C1.out 5 _ rfl).1
  have t5_ := (C2.out 5 _ rfl).1
  have u5_ := (C4.out 5 _ rfl).1
  refine RV.region_by (fun j v w => match j with | 0 => v = .bool (true) | 1 => v = .bool (false) | 2 => v = .bool (false) | 3 => v = .agg #[.int .i64 (aa0), .int .i64 (aa1), .int .i64 (aa2), .int .i64 (aa3), .int .i64 (aa4), .int .i64 (aa5)] | 4 => v = .agg #[.int .i64 (bb0), .int .i64 (bb1), .int .i64 (bb2), .int .i64 (bb3), .int .i64 (bb4), .int .i64 (bb5)] | 5 => v = .bool (m1) | 6 => v = .agg #[.int .i64 (aa0), .int .i64 (aa1), .int .i64 (aa2), .int .i64 (aa3), .int .i64 (aa4), .int .i64 (aa5)] | 7 => v = .agg #[.int .i64 (bb0), .int .i64 (bb1), .int .i64 (bb2), .int .i64 (bb3), .int .i64 (bb4), .int .i64 (bb5)] | 8 => v = .bool (m1) | 9 => v = .bool (false) | 10 => v = .bool (false) | 11 => v = .bool (false) | 12 => v = .agg #[.int .i64 (bb0), .int .i64 (bb1), .int .i64 (bb2), .int .i64 (bb3), .int .i64 (bb4), .int .i64 (bb5)] | 13 => v = .agg #[.int .i64 (aa0), .int .i64 (aa1), .int .i64 (aa2), .int .i64 (aa3), .int .i64 (aa4), .int .i64 (aa5)] | 14 => v = .bool (m1) | 15 => v = .agg #[.int .i64 (aa0), .int .i64 (aa1), .int .i64 (aa2), .int .i64 (aa3), .int .i64 (aa4), .int .i64 (aa5)] | 16 => v = .agg #[.int .i64 (bb0), .int .i64 (bb1), .int .i64 (bb2), .int .i64 (bb3), .int .i64 (bb4), .int .i64 (bb5)] | 17 => v = .bool (m1) | 18 => v = .bool (false) | 19 => v = .bool (false) | 20 => v = .bool (false) | 21 => v = .agg #[.int .i64 (aa0), .int .i64 (aa1), .int .i64 (aa2), .int .i64 (aa3), .int .i64 (aa4), .int .i64 (aa5)] | 22 => v = .int .i64 (n) | 23 => v = .agg #[.int .i64 (gg0), .int .i64 (gg1), .int .i64 (gg2), .int .i64 (gg3), .int .i64 (gg4), .int .i64 (gg5)] | 24 => v = .agg #[.int .i64 (aa0), .int .i64 (aa1), .int .i64 (aa2), .int .i64 (aa3), .int .i64 (aa4), .int .i64 (aa5)] | 25 => v = .int .i64 (n) | 26 => v = .agg #[.int .i64 (gg0), .int .i64 (gg1), .int .i64 (gg2), .int .i64 (gg3), .int .i64 (gg4), .int .i64 (gg5)] | 27 => v = .bool (false) | 28 => v = .bool (false) | 29 => v = .bool (false) | 30 => v = .agg #[.int .i64 (jj0), .int .i64 (jj1), .int .i64 (jj2), .int .i64 (jj3), .int .i64 (jj4), .int .i64 (jj5)] | 31 => v = .agg #[.int .i64 (aa0), .int .i64 (aa1), .int .i64 (aa2), .int .i64 (aa3), .int .i64 (aa4), .int .i64 (aa5)] | 32 => v = .agg #[.int .i64 (bb0), .int .i64 (bb1), .int .i64 (bb2), .int .i64 (bb3), .int .i64 (bb4), .int .i64 (bb5)] | 33 => v = .agg #[.int .i64 (jj0), .int .i64 (jj1), .int .i64 (jj2), .int .i64 (jj3), .int .i64 (jj4), .int .i64 (jj5)] | 34 => v = .bool (false) | 35 => v = .bool (false) | _ => True) (fun γ L w9 => Below V3.heap.size V3 w9) (by kernel_rfl) (by kernel_rfl) (by kernel_rfl) (by kernel_rfl) ?_ ?_ ?_
  · exact (Below.refl _ V3).drew
  · generalize hD : dstOf _ = D
    generalize hWA : waitsFor _ = WA
    generalize hZ : Act.mk _ _ = Z
    obtain ⟨R, hR⟩ : ∃ R : Nat → Value → World → Prop, R = (fun j v w => match j with | 0 => v = .bool (true) | 1 => v = .bool (false) | 2 => v = .bool (false) | 3 => v = .agg #[.int .i64 (aa0), .int .i64 (aa1), .int .i64 (aa2), .int .i64 (aa3), .int .i64 (aa4), .int .i64 (aa5)] | 4 => v = .agg #[.int .i64 (bb0), .int .i64 (bb1), .int .i64 (bb2), .int .i64 (bb3), .int .i64 (bb4), .int .i64 (bb5)] | 5 => v = .bool (m1) | 6 => v = .agg #[.int .i64 (aa0), .int .i64 (aa1), .int .i64 (aa2), .int .i64 (aa3), .int .i64 (aa4), .int .i64 (aa5)] | 7 => v = .agg #[.int .i64 (bb0), .int .i64 (bb1), .int .i64 (bb2), .int .i64 (bb3), .int .i64 (bb4), .int .i64 (bb5)] | 8 => v = .bool (m1) | 9 => v = .bool (false) | 10 => v = .bool (false) | 11 => v = .bool (false) | 12 => v = .agg #[.int .i64 (bb0), .int .i64 (bb1), .int .i64 (bb2), .int .i64 (bb3), .int .i64 (bb4), .int .i64 (bb5)] | 13 => v = .agg #[.int .i64 (aa0), .int .i64 (aa1), .int .i64 (aa2), .int .i64 (aa3), .int .i64 (aa4), .int .i64 (aa5)] | 14 => v = .bool (m1) | 15 => v = .agg #[.int .i64 (aa0), .int .i64 (aa1), .int .i64 (aa2), .int .i64 (aa3), .int .i64 (aa4), .int .i64 (aa5)] | 16 => v = .agg #[.int .i64 (bb0), .int .i64 (bb1), .int .i64 (bb2), .int .i64 (bb3), .int .i64 (bb4), .int .i64 (bb5)] | 17 => v = .bool (m1) | 18 => v = .bool (false) | 19 => v = .bool (false) | 20 => v = .bool (false) | 21 => v = .agg #[.int .i64 (aa0), .int .i64 (aa1), .int .i64 (aa2), .int .i64 (aa3), .int .i64 (aa4), .int .i64 (aa5)] | 22 => v = .int .i64 (n) | 23 => v = .agg #[.int .i64 (gg0), .int .i64 (gg1), .int .i64 (gg2), .int .i64 (gg3), .int .i64 (gg4), .int .i64 (gg5)] | 24 => v = .agg #[.int .i64 (aa0), .int .i64 (aa1), .int .i64 (aa2), .int .i64 (aa3), .int .i64 (aa4), .int .i64 (aa5)] | 25 => v = .int .i64 (n) | 26 => v = .agg #[.int .i64 (gg0), .int .i64 (gg1), .int .i64 (gg2), .int .i64 (gg3), .int .i64 (gg4), .int .i64 (gg5)] | 27 => v = .bool (false) | 28 => v = .bool (false) | 29 => v = .bool (false) | 30 => v = .agg #[.int .i64 (jj0), .int .i64 (jj1), .int .i64 (jj2), .int .i64 (jj3), .int .i64 (jj4), .int .i64 (jj5)] | 31 => v = .agg #[.int .i64 (aa0), .int .i64 (aa1), .int .i64 (aa2), .int .i64 (aa3), .int .i64 (aa4), .int .i64 (aa5)] | 32 => v = .agg #[.int .i64 (bb0), .int .i64 (bb1), .int .i64 (bb2), .int .i64 (bb3), .int .i64 (bb4), .int .i64 (bb5)] | 33 => v = .agg #[.int .i64 (jj0), .int .i64 (jj1), .int .i64 (jj2), .int .i64 (jj3), .int .i64 (jj4), .int .i64 (jj5)] | 34 => v = .bool (false) | 35 => v = .bool (false) | _ => True) := ⟨_, rfl⟩
    rw [← hR]
    have d0 : D 0 = some 15 := by rw [← hD]; rfl
    have d1 : D 1 = some 16 := by rw [← hD]; rfl
    have d2 : D 2 = some 17 := by rw [← hD]; rfl
    have d3 : D 3 = some 18 := by rw [← hD]; rfl
    have d4 : D 4 = some 19 := by rw [← hD]; rfl
    have d5 : D 5 = some 20 := by rw [← hD]; rfl
    have d6 : D 6 = some 21 := by rw [← hD]; rfl
    have d7 : D 7 = some 22 := by rw [← hD]; rfl
    have d8 : D 8 = some 23 := by rw [← hD]; rfl
    have d9 : D 9 = some 24 := by rw [← hD]; rfl
    have d10 : D 10 = some 25 := by rw [← hD]; rfl
    have d11 : D 11 = some 26 := by rw [← hD]; rfl
    have d12 : D 12 = some 27 := by rw [← hD]; rfl
    have d13 : D 13 = some 28 := by rw [← hD]; rfl
    have d14 : D 14 = some 29 := by rw [← hD]; rfl
    have d15 : D 15 = some 30 := by rw [← hD]; rfl
    have d16 : D 16 = some 31 := by rw [← hD]; rfl
    have d17 : D 17 = some 32 := by rw [← hD]; rfl
    have d18 : D 18 = some 33 := by rw [← hD]; rfl
    have d19 : D 19 = some 34 := by rw [← hD]; rfl
    have d20 : D 20 = some 35 := by rw [← hD]; rfl
    have d21 : D 21 = some 36 := by rw [← hD]; rfl
    have d22 : D 22 = some 37 := by rw [← hD]; rfl
    have d23 : D 23 = some 38 := by rw [← hD]; rfl
    have d24 : D 24 = some 39 := by rw [← hD]; rfl
    have d25 : D 25 = some 40 := by rw [← hD]; rfl
    have d26 : D 26 = some 41 := by rw [← hD]; rfl
    have d27 : D 27 = some 42 := by rw [← hD]; rfl
    have d28 : D 28 = some 43 := by rw [← hD]; rfl
    have d29 : D 29 = some 44 := by rw [← hD]; rfl
    have d30 : D 30 = some 45 := by rw [← hD]; rfl
    have d31 : D 31 = some 46 := by rw [← hD]; rfl
    have d32 : D 32 = some 47 := by rw [← hD]; rfl
    have d33 : D 33 = some 48 := by rw [← hD]; rfl
    have d34 : D 34 = some 49 := by rw [← hD]; rfl
    have d35 : D 35 = some 50 := by rw [← hD]; rfl
    have r0 : ∀ v w, R 0 v w = (v = .bool (true)) := fun v w => by rw [hR]; rfl
    have r1 : ∀ v w, R 1 v w = (v = .bool (false)) := fun v w => by rw [hR]; rfl
    have r2 : ∀ v w, R 2 v w = (v = .bool (false)) := fun v w => by rw [hR]; rfl
    have r3 : ∀ v w, R 3 v w = (v = .agg #[.int .i64 (aa0), .int .i64 (aa1), .int .i64 (aa2), .int .i64 (aa3), .int .i64 (aa4), .int .i64 (aa5)]) := fun v w => by rw [hR]; rfl
    have r4 : ∀ v w, R 4 v w = (v = .agg #[.int .i64 (bb0), .int .i64 (bb1), .int .i64 (bb2), .int .i64 (bb3), .int .i64 (bb4), .int .i64 (bb5)]) := fun v w => by rw [hR]; rfl
    have r5 : ∀ v w, R 5 v w = (v = .bool (m1)) := fun v w => by rw [hR]; rfl
    have r6 : ∀ v w, R 6 v w = (v = .agg #[.int .i64 (aa0), .int .i64 (aa1), .int .i64 (aa2), .int .i64 (aa3), .int .i64 (aa4), .int .i64 (aa5)]) := fun v w => by rw [hR]; rfl
    have r7 : ∀ v w, R 7 v w = (v = .agg #[.int .i64 (bb0), .int .i64 (bb1), .int .i64 (bb2), .int .i64 (bb3), .int .i64 (bb4), .int .i64 (bb5)]) := fun v w => by rw [hR]; rfl
    have r8 : ∀ v w, R 8 v w = (v = .bool (m1)) := fun v w => by rw [hR]; rfl
    have r9 : ∀ v w, R 9 v w = (v = .bool (false)) := fun v w => by rw [hR]; rfl
    have r10 : ∀ v w, R 10 v w = (v = .bool (false)) := fun v w => by rw [hR]; rfl
    have r11 : ∀ v w, R 11 v w = (v = .bool (false)) := fun v w => by rw [hR]; rfl
    have r12 : ∀ v w, R 12 v w = (v = .agg #[.int .i64 (bb0), .int .i64 (bb1), .int .i64 (bb2), .int .i64 (bb3), .int .i64 (bb4), .int .i64 (bb5)]) := fun v w => by rw [hR]; rfl
    have r13 : ∀ v w, R 13 v w = (v = .agg #[.int .i64 (aa0), .int .i64 (aa1), .int .i64 (aa2), .int .i64 (aa3), .int .i64 (aa4), .int .i64 (aa5)]) := fun v w => by rw [hR]; rfl
    have r14 : ∀ v w, R 14 v w = (v = .bool (m1)) := fun v w => by rw [hR]; rfl
    have r15 : ∀ v w, R 15 v w = (v = .agg #[.int .i64 (aa0), .int .i64 (aa1), .int .i64 (aa2), .int .i64 (aa3), .int .i64 (aa4), .int .i64 (aa5)]) := fun v w => by rw [hR]; rfl
    have r16 : ∀ v w, R 16 v w = (v = .agg #[.int .i64 (bb0), .int .i64 (bb1), .int .i64 (bb2), .int .i64 (bb3), .int .i64 (bb4), .int .i64 (bb5)]) := fun v w => by rw [hR]; rfl
    have r17 : ∀ v w, R 17 v w = (v = .bool (m1)) := fun v w => by rw [hR]; rfl
    have r18 : ∀ v w, R 18 v w = (v = .bool (false)) := fun v w => by rw [hR]; rfl
    have r19 : ∀ v w, R 19 v w = (v = .bool (false)) := fun v w => by rw [hR]; rfl
    have r20 : ∀ v w, R 20 v w = (v = .bool (false)) := fun v w => by rw [hR]; rfl
    have r21 : ∀ v w, R 21 v w = (v = .agg #[.int .i64 (aa0), .int .i64 (aa1), .int .i64 (aa2), .int .i64 (aa3), .int .i64 (aa4), .int .i64 (aa5)]) := fun v w => by rw [hR]; rfl
    have r22 : ∀ v w, R 22 v w = (v = .int .i64 (n)) := fun v w => by rw [hR]; rfl
    have r23 : ∀ v w, R 23 v w = (v = .agg #[.int .i64 (gg0), .int .i64 (gg1), .int .i64 (gg2), .int .i64 (gg3), .int .i64 (gg4), .int .i64 (gg5)]) := fun v w => by rw [hR]; rfl
    have r24 : ∀ v w, R 24 v w = (v = .agg #[.int .i64 (aa0), .int .i64 (aa1), .int .i64 (aa2), .int .i64 (aa3), .int .i64 (aa4), .int .i64 (aa5)]) := fun v w => by rw [hR]; rfl
    have r25 : ∀ v w, R 25 v w = (v = .int .i64 (n)) := fun v w => by rw [hR]; rfl
    have r26 : ∀ v w, R 26 v w = (v = .agg #[.int .i64 (gg0), .int .i64 (gg1), .int .i64 (gg2), .int .i64 (gg3), .int .i64 (gg4), .int .i64 (gg5)]) := fun v w => by rw [hR]; rfl
    have r27 : ∀ v w, R 27 v w = (v = .bool (false)) := fun v w => by rw [hR]; rfl
    have r28 : ∀ v w, R 28 v w = (v = .bool (false)) := fun v w => by rw [hR]; rfl
    have r29 : ∀ v w, R 29 v w = (v = .bool (false)) := fun v w => by rw [hR]; rfl
    have r30 : ∀ v w, R 30 v w = (v = .agg #[.int .i64 (jj0), .int .i64 (jj1), .int .i64 (jj2), .int .i64 (jj3), .int .i64 (jj4), .int .i64 (jj5)]) := fun v w => by rw [hR]; rfl
    have r31 : ∀ v w, R 31 v w = (v = .agg #[.int .i64 (aa0), .int .i64 (aa1), .int .i64 (aa2), .int .i64 (aa3), .int .i64 (aa4), .int .i64 (aa5)]) := fun v w => by rw [hR]; rfl
    have r32 : ∀ v w, R 32 v w = (v = .agg #[.int .i64 (bb0), .int .i64 (bb1), .int .i64 (bb2), .int .i64 (bb3), .int .i64 (bb4), .int .i64 (bb5)]) := fun v w => by rw [hR]; rfl
    have r33 : ∀ v w, R 33 v w = (v = .agg #[.int .i64 (jj0), .int .i64 (jj1), .int .i64 (jj2), .int .i64 (jj3), .int .i64 (jj4), .int .i64 (jj5)]) := fun v w => by rw [hR]; rfl
    have r34 : ∀ v w, R 34 v w = (v = .bool (false)) := fun v w => by rw [hR]; rfl
    have r35 : ∀ v w, R 35 v w = (v = .bool (false)) := fun v w => by rw [hR]; rfl
    have E3 : ∀ (γ : Nat → Value) (L : Nat → Bool) (a : Act) (w : World), RV.Held D WA R (fun γ L w9 => Below V3.heap.size V3 w9) Z γ L a w → a.tmps[3]? = some (.int .i64 (n)) := fun γ L a w hH => (hH.rest 3 (by rw [← hD]; exact RV.dst_free (by kernel_rfl))).trans (by rw [← hZ]; rfl)
    have E4 : ∀ (γ : Nat → Value) (L : Nat → Bool) (a : Act) (w : World), RV.Held D WA R (fun γ L w9 => Below V3.heap.size V3 w9) Z γ L a w → a.tmps[4]? = some (.pointer (some ⟨qa, 0, none⟩)) := fun γ L a w hH => (hH.rest 4 (by rw [← hD]; exact RV.dst_free (by kernel_rfl))).trans (by rw [← hZ]; rfl)
    have E5 : ∀ (γ : Nat → Value) (L : Nat → Bool) (a : Act) (w : World), RV.Held D WA R (fun γ L w9 => Below V3.heap.size V3 w9) Z γ L a w → a.tmps[5]? = some (.pointer (some ⟨qb, 0, none⟩)) := fun γ L a w hH => (hH.rest 5 (by rw [← hD]; exact RV.dst_free (by kernel_rfl))).trans (by rw [← hZ]; rfl)
    have E9 : ∀ (γ : Nat → Value) (L : Nat → Bool) (a : Act) (w : World), RV.Held D WA R (fun γ L w9 => Below V3.heap.size V3 w9) Z γ L a w → a.tmps[9]? = some (.bool (true)) := fun γ L a w hH => (hH.rest 9 (by rw [← hD]; exact RV.dst_free (by kernel_rfl))).trans (by rw [← hZ]; rfl)
    have E10 : ∀ (γ : Nat → Value) (L : Nat → Bool) (a : Act) (w : World), RV.Held D WA R (fun γ L w9 => Below V3.heap.size V3 w9) Z γ L a w → a.tmps[10]? = some (.pointer (some ⟨qj, 0, none⟩)) := fun γ L a w hH => (hH.rest 10 (by rw [← hD]; exact RV.dst_free (by kernel_rfl))).trans (by rw [← hZ]; rfl)
    have K : ∀ j v w w', R j v w → R j v w' := by rw [hR]; intro j v w w' h; exact h
    clear hD hWA hZ hR
    refine RV.AllDo.cons 0 (RV.does_pure (fun γ v L w hl h => h) (fun γ L a w hH hl hA => by have e0 := E9 γ L a w hH; exact ⟨.bool (true), by simp [execOp, go_sem, e0], (r0 _ _).mpr rfl⟩)) ?_
    refine RV.AllDo.cons 1 (RV.does_pure (fun γ v L w hl h => h) (fun γ L a w hH hl hA => by have l0 : L 0 = true := hA ⟨0, .data⟩ (by simp) rfl; have e0 := hH.slot 0 15 d0 l0; have g0 := hH.holds 0 l0; rw [r0] at g0; rw [g0] at e0; exact ⟨.bool (false), by simp [execOp, go_sem, e0], (r1 _ _).mpr rfl⟩)) ?_
    refine RV.AllDo.cons 2 (RV.does_pure (fun γ v L w hl h => h) (fun γ L a w hH hl hA => by have l0 : L 1 = true := hA ⟨1, .data⟩ (by simp) rfl; have e0 := hH.slot 1 16 d1 l0; have g0 := hH.holds 1 l0; rw [r1] at g0; rw [g0] at e0; exact ⟨.bool (false), by simp [execOp, go_sem, e0], (r2 _ _).mpr rfl⟩)) ?_
    refine RV.AllDo.cons 3 (RV.does_guarded rfl d2 (fun v w h => by rw [r2] at h; exact h) (by simp) (RV.does_pure (fun γ v L w hl h => h) (fun γ L a w hH hl hA => by have e0 := E4 γ L a w hH; have hB9 := hH.glob; have z0 := c_after hB9 s0_; have z1 := c_after hB9 s1_; have z2 := c_after hB9 s2_; have z3 := c_after hB9 s3_; have z4 := c_after hB9 s4_; have z5 := c_after hB9 s5_; exact ⟨.agg #[.int .i64 (aa0), .int .i64 (aa1), .int .i64 (aa2), .int .i64 (aa3), .int .i64 (aa4), .int .i64 (aa5)], by simp [execOp, go_sem, e0, z0, z1, z2, z3, z4, z5], (r3 _ _).mpr rfl⟩))) ?_
    refine RV.AllDo.cons 4 (RV.does_guarded rfl d2 (fun v w h => by rw [r2] at h; exact h) (by simp) (RV.does_pure (fun γ v L w hl h => h) (fun γ L a w hH hl hA => by have e0 := E5 γ L a w hH; have hB9 := hH.glob; have z0 := c_after hB9 t0_; have z1 := c_after hB9 t1_; have z2 := c_after hB9 t2_; have z3 := c_after hB9 t3_; have z4 := c_after hB9 t4_; have z5 := c_after hB9 t5_; exact ⟨.agg #[.int .i64 (bb0), .int .i64 (bb1), .int .i64 (bb2), .int .i64 (bb3), .int .i64 (bb4), .int .i64 (bb5)], by simp [execOp, go_sem, e0, z0, z1, z2, z3, z4, z5], (r4 _ _).mpr rfl⟩))) ?_
    refine RV.AllDo.cons 5 (RV.does_guarded rfl d2 (fun v w h => by rw [r2] at h; exact h) (by simp) (RV.does_call (fun γ L a w hH hl hA => by have l0 : L 3 = true := hA ⟨3, .data⟩ (by simp) rfl; have e0 := hH.slot 3 18 d3 l0; have g0 := hH.holds 3 l0; rw [r3] at g0; rw [g0] at e0; have l1 : L 4 = true := hA ⟨4, .data⟩ (by simp) rfl; have e1 := hH.slot 4 19 d4 l1; have g1 := hH.holds 4 l1; rw [r4] at g1; rw [g1] at e1; have hB9 := hH.glob; exact ⟨7, #[.agg #[.int .i64 (aa0), .int .i64 (aa1), .int .i64 (aa2), .int .i64 (aa3), .int .i64 (aa4), .int .i64 (aa5)], .agg #[.int .i64 (bb0), .int .i64 (bb1), .int .i64 (bb2), .int .i64 (bb3), .int .i64 (bb4), .int .i64 (bb5)]], by simp [go_sem, e0, e1], Calls.mono (H1.out w) (by rintro e w2 ⟨rfl, hb⟩; exact ⟨_, rfl, (r5 _ _).mpr rfl, fun j v _ h => K j v _ _ h, hB9.trans (hb.mono hB9.size)⟩)⟩))) ?_
    refine RV.AllDo.cons 6 (RV.does_guarded rfl d2 (fun v w h => by rw [r2] at h; exact h) (by simp) (RV.does_pure (fun γ v L w hl h => h) (fun γ L a w hH hl hA => by have e0 := E4 γ L a w hH; have hB9 := hH.glob; have z0 := c_after hB9 s0_; have z1 := c_after hB9 s1_; have z2 := c_after hB9 s2_; have z3 := c_after hB9 s3_; have z4 := c_after hB9 s4_; have z5 := c_after hB9 s5_; exact ⟨.agg #[.int .i64 (aa0), .int .i64 (aa1), .int .i64 (aa2), .int .i64 (aa3), .int .i64 (aa4), .int .i64 (aa5)], by simp [execOp, go_sem, e0, z0, z1, z2, z3, z4, z5], (r6 _ _).mpr rfl⟩))) ?_
    refine RV.AllDo.cons 7 (RV.does_guarded rfl d2 (fun v w h => by rw [r2] at h; exact h) (by simp) (RV.does_pure (fun γ v L w hl h => h) (fun γ L a w hH hl hA => by have e0 := E5 γ L a w hH; have hB9 := hH.glob; have z0 := c_after hB9 t0_; have z1 := c_after hB9 t1_; have z2 := c_after hB9 t2_; have z3 := c_after hB9 t3_; have z4 := c_after hB9 t4_; have z5 := c_after hB9 t5_; exact ⟨.agg #[.int .i64 (bb0), .int .i64 (bb1), .int .i64 (bb2), .int .i64 (bb3), .int .i64 (bb4), .int .i64 (bb5)], by simp [execOp, go_sem, e0, z0, z1, z2, z3, z4, z5], (r7 _ _).mpr rfl⟩))) ?_
    refine RV.AllDo.cons 8 (RV.does_guarded rfl d2 (fun v w h => by rw [r2] at h; exact h) (by simp) (RV.does_call (fun γ L a w hH hl hA => by have l0 : L 6 = true := hA ⟨6, .data⟩ (by simp) rfl; have e0 := hH.slot 6 21 d6 l0; have g0 := hH.holds 6 l0; rw [r6] at g0; rw [g0] at e0; have l1 : L 7 = true := hA ⟨7, .data⟩ (by simp) rfl; have e1 := hH.slot 7 22 d7 l1; have g1 := hH.holds 7 l1; rw [r7] at g1; rw [g1] at e1; have hB9 := hH.glob; exact ⟨8, #[.agg #[.int .i64 (aa0), .int .i64 (aa1), .int .i64 (aa2), .int .i64 (aa3), .int .i64 (aa4), .int .i64 (aa5)], .agg #[.int .i64 (bb0), .int .i64 (bb1), .int .i64 (bb2), .int .i64 (bb3), .int .i64 (bb4), .int .i64 (bb5)]], by simp [go_sem, e0, e1], Calls.mono (H2.out w) (by rintro e w2 ⟨rfl, hb⟩; exact ⟨_, rfl, (r8 _ _).mpr rfl, fun j v _ h => K j v _ _ h, hB9.trans (hb.mono hB9.size)⟩)⟩))) ?_
    refine RV.AllDo.cons 9 (RV.does_guarded rfl d2 (fun v w h => by rw [r2] at h; exact h) (by simp) (RV.does_pure (fun γ v L w hl h => h) (fun γ L a w hH hl hA => by have l0 : L 5 = true := hA ⟨5, .data⟩ (by simp) rfl; have e0 := hH.slot 5 20 d5 l0; have g0 := hH.holds 5 l0; rw [r5] at g0; rw [g0] at e0; have l1 : L 8 = true := hA ⟨8, .data⟩ (by simp) rfl; have e1 := hH.slot 8 23 d8 l1; have g1 := hH.holds 8 l1; rw [r8] at g1; rw [g1] at e1; exact ⟨.bool (false), by simp [execOp, go_sem, e0, e1], (r9 _ _).mpr rfl⟩))) ?_
    refine RV.AllDo.cons 10 (RV.does_pure (fun γ v L w hl h => h) (fun γ L a w hH hl hA => by have l0 : L 2 = true := hA ⟨2, .data⟩ (by simp) rfl; have e0 := hH.slot 2 17 d2 l0; have g0 := hH.holds 2 l0; rw [r2] at g0; rw [g0] at e0; have l1 : L 9 = true := hA ⟨9, .data⟩ (by simp) rfl; have e1 := hH.slot 9 24 d9 l1; have g1 := hH.holds 9 l1; rw [r9] at g1; rw [g1] at e1; exact ⟨.bool (false), by simp [execOp, go_sem, e0, e1], (r10 _ _).mpr rfl⟩)) ?_
    refine RV.AllDo.cons 11 (RV.does_pure (fun γ v L w hl h => h) (fun γ L a w hH hl hA => by have l0 : L 10 = true := hA ⟨10, .data⟩ (by simp) rfl; have e0 := hH.slot 10 25 d10 l0; have g0 := hH.holds 10 l0; rw [r10] at g0; rw [g0] at e0; exact ⟨.bool (false), by simp [execOp, go_sem, e0], (r11 _ _).mpr rfl⟩)) ?_
    refine RV.AllDo.cons 12 (RV.does_guarded rfl d11 (fun v w h => by rw [r11] at h; exact h) (by simp) (RV.does_pure (fun γ v L w hl h => h) (fun γ L a w hH hl hA => by have e0 := E5 γ L a w hH; have hB9 := hH.glob; have z0 := c_after hB9 t0_; have z1 := c_after hB9 t1_; have z2 := c_after hB9 t2_; have z3 := c_after hB9 t3_; have z4 := c_after hB9 t4_; have z5 := c_after hB9 t5_; exact ⟨.agg #[.int .i64 (bb0), .int .i64 (bb1), .int .i64 (bb2), .int .i64 (bb3), .int .i64 (bb4), .int .i64 (bb5)], by simp [execOp, go_sem, e0, z0, z1, z2, z3, z4, z5], (r12 _ _).mpr rfl⟩))) ?_
    refine RV.AllDo.cons 13 (RV.does_guarded rfl d11 (fun v w h => by rw [r11] at h; exact h) (by simp) (RV.does_pure (fun γ v L w hl h => h) (fun γ L a w hH hl hA => by have e0 := E4 γ L a w hH; have hB9 := hH.glob; have z0 := c_after hB9 s0_; have z1 := c_after hB9 s1_; have z2 := c_after hB9 s2_; have z3 := c_after hB9 s3_; have z4 := c_after hB9 s4_; have z5 := c_after hB9 s5_; exact ⟨.agg #[.int .i64 (aa0), .int .i64 (aa1), .int .i64 (aa2), .int .i64 (aa3), .int .i64 (aa4), .int .i64 (aa5)], by simp [execOp, go_sem, e0, z0, z1, z2, z3, z4, z5], (r13 _ _).mpr rfl⟩))) ?_
    refine RV.AllDo.cons 14 (RV.does_guarded rfl d11 (fun v w h => by rw [r11] at h; exact h) (by simp) (RV.does_call (fun γ L a w hH hl hA => by have l0 : L 12 = true := hA ⟨12, .data⟩ (by simp) rfl; have e0 := hH.slot 12 27 d12 l0; have g0 := hH.holds 12 l0; rw [r12] at g0; rw [g0] at e0; have l1 : L 13 = true := hA ⟨13, .data⟩ (by simp) rfl; have e1 := hH.slot 13 28 d13 l1; have g1 := hH.holds 13 l1; rw [r13] at g1; rw [g1] at e1; have hB9 := hH.glob; exact ⟨7, #[.agg #[.int .i64 (bb0), .int .i64 (bb1), .int .i64 (bb2), .int .i64 (bb3), .int .i64 (bb4), .int .i64 (bb5)], .agg #[.int .i64 (aa0), .int .i64 (aa1), .int .i64 (aa2), .int .i64 (aa3), .int .i64 (aa4), .int .i64 (aa5)]], by simp [go_sem, e0, e1], Calls.mono (H3.out w) (by rintro e w2 ⟨rfl, hb⟩; exact ⟨_, rfl, (r14 _ _).mpr rfl, fun j v _ h => K j v _ _ h, hB9.trans (hb.mono hB9.size)⟩)⟩))) ?_
    refine RV.AllDo.cons 15 (RV.does_guarded rfl d11 (fun v w h => by rw [r11] at h; exact h) (by simp) (RV.does_pure (fun γ v L w hl h => h) (fun γ L a w hH hl hA => by have e0 := E4 γ L a w hH; have hB9 := hH.glob; have z0 := c_after hB9 s0_; have z1 := c_after hB9 s1_; have z2 := c_after hB9 s2_; have z3 := c_after hB9 s3_; have z4 := c_after hB9 s4_; have z5 := c_after hB9 s5_; exact ⟨.agg #[.int .i64 (aa0), .int .i64 (aa1), .int .i64 (aa2), .int .i64 (aa3), .int .i64 (aa4), .int .i64 (aa5)], by simp [execOp, go_sem, e0, z0, z1, z2, z3, z4, z5], (r15 _ _).mpr rfl⟩))) ?_
    refine RV.AllDo.cons 16 (RV.does_guarded rfl d11 (fun v w h => by rw [r11] at h; exact h) (by simp) (RV.does_pure (fun γ v L w hl h => h) (fun γ L a w hH hl hA => by have e0 := E5 γ L a w hH; have hB9 := hH.glob; have z0 := c_after hB9 t0_; have z1 := c_after hB9 t1_; have z2 := c_after hB9 t2_; have z3 := c_after hB9 t3_; have z4 := c_after hB9 t4_; have z5 := c_after hB9 t5_; exact ⟨.agg #[.int .i64 (bb0), .int .i64 (bb1), .int .i64 (bb2), .int .i64 (bb3), .int .i64 (bb4), .int .i64 (bb5)], by simp [execOp, go_sem, e0, z0, z1, z2, z3, z4, z5], (r16 _ _).mpr rfl⟩))) ?_
    refine RV.AllDo.cons 17 (RV.does_guarded rfl d11 (fun v w h => by rw [r11] at h; exact h) (by simp) (RV.does_call (fun γ L a w hH hl hA => by have l0 : L 15 = true := hA ⟨15, .data⟩ (by simp) rfl; have e0 := hH.slot 15 30 d15 l0; have g0 := hH.holds 15 l0; rw [r15] at g0; rw [g0] at e0; have l1 : L 16 = true := hA ⟨16, .data⟩ (by simp) rfl; have e1 := hH.slot 16 31 d16 l1; have g1 := hH.holds 16 l1; rw [r16] at g1; rw [g1] at e1; have hB9 := hH.glob; exact ⟨7, #[.agg #[.int .i64 (aa0), .int .i64 (aa1), .int .i64 (aa2), .int .i64 (aa3), .int .i64 (aa4), .int .i64 (aa5)], .agg #[.int .i64 (bb0), .int .i64 (bb1), .int .i64 (bb2), .int .i64 (bb3), .int .i64 (bb4), .int .i64 (bb5)]], by simp [go_sem, e0, e1], Calls.mono (H1.out w) (by rintro e w2 ⟨rfl, hb⟩; exact ⟨_, rfl, (r17 _ _).mpr rfl, fun j v _ h => K j v _ _ h, hB9.trans (hb.mono hB9.size)⟩)⟩))) ?_
    refine RV.AllDo.cons 18 (RV.does_guarded rfl d11 (fun v w h => by rw [r11] at h; exact h) (by simp) (RV.does_pure (fun γ v L w hl h => h) (fun γ L a w hH hl hA => by have l0 : L 14 = true := hA ⟨14, .data⟩ (by simp) rfl; have e0 := hH.slot 14 29 d14 l0; have g0 := hH.holds 14 l0; rw [r14] at g0; rw [g0] at e0; have l1 : L 17 = true := hA ⟨17, .data⟩ (by simp) rfl; have e1 := hH.slot 17 32 d17 l1; have g1 := hH.holds 17 l1; rw [r17] at g1; rw [g1] at e1; exact ⟨.bool (false), by simp [execOp, go_sem, e0, e1], (r18 _ _).mpr rfl⟩))) ?_
    refine RV.AllDo.cons 19 (RV.does_pure (fun γ v L w hl h => h) (fun γ L a w hH hl hA => by have l0 : L 11 = true := hA ⟨11, .data⟩ (by simp) rfl; have e0 := hH.slot 11 26 d11 l0; have g0 := hH.holds 11 l0; rw [r11] at g0; rw [g0] at e0; have l1 : L 18 = true := hA ⟨18, .data⟩ (by simp) rfl; have e1 := hH.slot 18 33 d18 l1; have g1 := hH.holds 18 l1; rw [r18] at g1; rw [g1] at e1; exact ⟨.bool (false), by simp [execOp, go_sem, e0, e1], (r19 _ _).mpr rfl⟩)) ?_
    refine RV.AllDo.cons 20 (RV.does_pure (fun γ v L w hl h => h) (fun γ L a w hH hl hA => by have l0 : L 19 = true := hA ⟨19, .data⟩ (by simp) rfl; have e0 := hH.slot 19 34 d19 l0; have g0 := hH.holds 19 l0; rw [r19] at g0; rw [g0] at e0; exact ⟨.bool (false), by simp [execOp, go_sem, e0], (r20 _ _).mpr rfl⟩)) ?_
    refine RV.AllDo.cons 21 (RV.does_guarded rfl d20 (fun v w h => by rw [r20] at h; exact h) (by simp) (RV.does_pure (fun γ v L w hl h => h) (fun γ L a w hH hl hA => by have e0 := E4 γ L a w hH; have hB9 := hH.glob; have z0 := c_after hB9 s0_; have z1 := c_after hB9 s1_; have z2 := c_after hB9 s2_; have z3 := c_after hB9 s3_; have z4 := c_after hB9 s4_; have z5 := c_after hB9 s5_; exact ⟨.agg #[.int .i64 (aa0), .int .i64 (aa1), .int .i64 (aa2), .int .i64 (aa3), .int .i64 (aa4), .int .i64 (aa5)], by simp [execOp, go_sem, e0, z0, z1, z2, z3, z4, z5], (r21 _ _).mpr rfl⟩))) ?_
    refine RV.AllDo.cons 22 (RV.does_guarded rfl d20 (fun v w h => by rw [r20] at h; exact h) (by simp) (RV.does_pure (fun γ v L w hl h => h) (fun γ L a w hH hl hA => by have e0 := E3 γ L a w hH; exact ⟨.int .i64 (n), by simp [execOp, go_sem, e0], (r22 _ _).mpr rfl⟩))) ?_
    refine RV.AllDo.cons 23 (RV.does_guarded rfl d20 (fun v w h => by rw [r20] at h; exact h) (by simp) (RV.does_call (fun γ L a w hH hl hA => by have l0 : L 21 = true := hA ⟨21, .data⟩ (by simp) rfl; have e0 := hH.slot 21 36 d21 l0; have g0 := hH.holds 21 l0; rw [r21] at g0; rw [g0] at e0; have l1 : L 22 = true := hA ⟨22, .data⟩ (by simp) rfl; have e1 := hH.slot 22 37 d22 l1; have g1 := hH.holds 22 l1; rw [r22] at g1; rw [g1] at e1; have hB9 := hH.glob; exact ⟨9, #[.agg #[.int .i64 (aa0), .int .i64 (aa1), .int .i64 (aa2), .int .i64 (aa3), .int .i64 (aa4), .int .i64 (aa5)], .int .i64 (n)], by simp [go_sem, e0, e1], Calls.mono (H4.out w) (by rintro e w2 ⟨rfl, hb⟩; exact ⟨_, rfl, (r23 _ _).mpr rfl, fun j v _ h => K j v _ _ h, hB9.trans (hb.mono hB9.size)⟩)⟩))) ?_
    refine RV.AllDo.cons 24 (RV.does_guarded rfl d20 (fun v w h => by rw [r20] at h; exact h) (by simp) (RV.does_pure (fun γ v L w hl h => h) (fun γ L a w hH hl hA => by have e0 := E4 γ L a w hH; have hB9 := hH.glob; have z0 := c_after hB9 s0_; have z1 := c_after hB9 s1_; have z2 := c_after hB9 s2_; have z3 := c_after hB9 s3_; have z4 := c_after hB9 s4_; have z5 := c_after hB9 s5_; exact ⟨.agg #[.int .i64 (aa0), .int .i64 (aa1), .int .i64 (aa2), .int .i64 (aa3), .int .i64 (aa4), .int .i64 (aa5)], by simp [execOp, go_sem, e0, z0, z1, z2, z3, z4, z5], (r24 _ _).mpr rfl⟩))) ?_
    refine RV.AllDo.cons 25 (RV.does_guarded rfl d20 (fun v w h => by rw [r20] at h; exact h) (by simp) (RV.does_pure (fun γ v L w hl h => h) (fun γ L a w hH hl hA => by have e0 := E3 γ L a w hH; exact ⟨.int .i64 (n), by simp [execOp, go_sem, e0], (r25 _ _).mpr rfl⟩))) ?_
    refine RV.AllDo.cons 26 (RV.does_guarded rfl d20 (fun v w h => by rw [r20] at h; exact h) (by simp) (RV.does_call (fun γ L a w hH hl hA => by have l0 : L 24 = true := hA ⟨24, .data⟩ (by simp) rfl; have e0 := hH.slot 24 39 d24 l0; have g0 := hH.holds 24 l0; rw [r24] at g0; rw [g0] at e0; have l1 : L 25 = true := hA ⟨25, .data⟩ (by simp) rfl; have e1 := hH.slot 25 40 d25 l1; have g1 := hH.holds 25 l1; rw [r25] at g1; rw [g1] at e1; have hB9 := hH.glob; exact ⟨10, #[.agg #[.int .i64 (aa0), .int .i64 (aa1), .int .i64 (aa2), .int .i64 (aa3), .int .i64 (aa4), .int .i64 (aa5)], .int .i64 (n)], by simp [go_sem, e0, e1], Calls.mono (H5.out w) (by rintro e w2 ⟨rfl, hb⟩; exact ⟨_, rfl, (r26 _ _).mpr rfl, fun j v _ h => K j v _ _ h, hB9.trans (hb.mono hB9.size)⟩)⟩))) ?_
    refine RV.AllDo.cons 27 (RV.does_guarded rfl d20 (fun v w h => by rw [r20] at h; exact h) (by simp) (RV.does_pure (fun γ v L w hl h => h) (fun γ L a w hH hl hA => by have l0 : L 23 = true := hA ⟨23, .data⟩ (by simp) rfl; have e0 := hH.slot 23 38 d23 l0; have g0 := hH.holds 23 l0; rw [r23] at g0; rw [g0] at e0; have l1 : L 26 = true := hA ⟨26, .data⟩ (by simp) rfl; have e1 := hH.slot 26 41 d26 l1; have g1 := hH.holds 26 l1; rw [r26] at g1; rw [g1] at e1; exact ⟨.bool (false), by simp [execOp, go_sem, e0, e1], (r27 _ _).mpr rfl⟩))) ?_
    refine RV.AllDo.cons 28 (RV.does_pure (fun γ v L w hl h => h) (fun γ L a w hH hl hA => by have l0 : L 20 = true := hA ⟨20, .data⟩ (by simp) rfl; have e0 := hH.slot 20 35 d20 l0; have g0 := hH.holds 20 l0; rw [r20] at g0; rw [g0] at e0; have l1 : L 27 = true := hA ⟨27, .data⟩ (by simp) rfl; have e1 := hH.slot 27 42 d27 l1; have g1 := hH.holds 27 l1; rw [r27] at g1; rw [g1] at e1; exact ⟨.bool (false), by simp [execOp, go_sem, e0, e1], (r28 _ _).mpr rfl⟩)) ?_
    refine RV.AllDo.cons 29 (RV.does_pure (fun γ v L w hl h => h) (fun γ L a w hH hl hA => by have l0 : L 28 = true := hA ⟨28, .data⟩ (by simp) rfl; have e0 := hH.slot 28 43 d28 l0; have g0 := hH.holds 28 l0; rw [r28] at g0; rw [g0] at e0; exact ⟨.bool (false), by simp [execOp, go_sem, e0], (r29 _ _).mpr rfl⟩)) ?_
    refine RV.AllDo.cons 30 (RV.does_guarded rfl d29 (fun v w h => by rw [r29] at h; exact h) (by simp) (RV.does_pure (fun γ v L w hl h => h) (fun γ L a w hH hl hA => by have e0 := E10 γ L a w hH; have hB9 := hH.glob; have z0 := c_after hB9 u0_; have z1 := c_after hB9 u1_; have z2 := c_after hB9 u2_; have z3 := c_after hB9 u3_; have z4 := c_after hB9 u4_; have z5 := c_after hB9 u5_; exact ⟨.agg #[.int .i64 (jj0), .int .i64 (jj1), .int .i64 (jj2), .int .i64 (jj3), .int .i64 (jj4), .int .i64 (jj5)], by simp [execOp, go_sem, e0, z0, z1, z2, z3, z4, z5], (r30 _ _).mpr rfl⟩))) ?_
    refine RV.AllDo.cons 31 (RV.does_guarded rfl d29 (fun v w h => by rw [r29] at h; exact h) (by simp) (RV.does_pure (fun γ v L w hl h => h) (fun γ L a w hH hl hA => by have e0 := E4 γ L a w hH; have hB9 := hH.glob; have z0 := c_after hB9 s0_; have z1 := c_after hB9 s1_; have z2 := c_after hB9 s2_; have z3 := c_after hB9 s3_; have z4 := c_after hB9 s4_; have z5 := c_after hB9 s5_; exact ⟨.agg #[.int .i64 (aa0), .int .i64 (aa1), .int .i64 (aa2), .int .i64 (aa3), .int .i64 (aa4), .int .i64 (aa5)], by simp [execOp, go_sem, e0, z0, z1, z2, z3, z4, z5], (r31 _ _).mpr rfl⟩))) ?_
    refine RV.AllDo.cons 32 (RV.does_guarded rfl d29 (fun v w h => by rw [r29] at h; exact h) (by simp) (RV.does_pure (fun γ v L w hl h => h) (fun γ L a w hH hl hA => by have e0 := E5 γ L a w hH; have hB9 := hH.glob; have z0 := c_after hB9 t0_; have z1 := c_after hB9 t1_; have z2 := c_after hB9 t2_; have z3 := c_after hB9 t3_; have z4 := c_after hB9 t4_; have z5 := c_after hB9 t5_; exact ⟨.agg #[.int .i64 (bb0), .int .i64 (bb1), .int .i64 (bb2), .int .i64 (bb3), .int .i64 (bb4), .int .i64 (bb5)], by simp [execOp, go_sem, e0, z0, z1, z2, z3, z4, z5], (r32 _ _).mpr rfl⟩))) ?_
    refine RV.AllDo.cons 33 (RV.does_guarded rfl d29 (fun v w h => by rw [r29] at h; exact h) (by simp) (RV.does_call (fun γ L a w hH hl hA => by have l0 : L 31 = true := hA ⟨31, .data⟩ (by simp) rfl; have e0 := hH.slot 31 46 d31 l0; have g0 := hH.holds 31 l0; rw [r31] at g0; rw [g0] at e0; have l1 : L 32 = true := hA ⟨32, .data⟩ (by simp) rfl; have e1 := hH.slot 32 47 d32 l1; have g1 := hH.holds 32 l1; rw [r32] at g1; rw [g1] at e1; have hB9 := hH.glob; exact ⟨11, #[.agg #[.int .i64 (aa0), .int .i64 (aa1), .int .i64 (aa2), .int .i64 (aa3), .int .i64 (aa4), .int .i64 (aa5)], .agg #[.int .i64 (bb0), .int .i64 (bb1), .int .i64 (bb2), .int .i64 (bb3), .int .i64 (bb4), .int .i64 (bb5)]], by simp [go_sem, e0, e1], Calls.mono (H7.out w) (by rintro e w2 ⟨rfl, hb⟩; exact ⟨_, rfl, (r33 _ _).mpr rfl, fun j v _ h => K j v _ _ h, hB9.trans (hb.mono hB9.size)⟩)⟩))) ?_
    refine RV.AllDo.cons 34 (RV.does_guarded rfl d29 (fun v w h => by rw [r29] at h; exact h) (by simp) (RV.does_pure (fun γ v L w hl h => h) (fun γ L a w hH hl hA => by have l0 : L 30 = true := hA ⟨30, .data⟩ (by simp) rfl; have e0 := hH.slot 30 45 d30 l0; have g0 := hH.holds 30 l0; rw [r30] at g0; rw [g0] at e0; have l1 : L 33 = true := hA ⟨33, .data⟩ (by simp) rfl; have e1 := hH.slot 33 48 d33 l1; have g1 := hH.holds 33 l1; rw [r33] at g1; rw [g1] at e1; exact ⟨.bool (false), by simp [execOp, go_sem, e0, e1], (r34 _ _).mpr rfl⟩))) ?_
    refine RV.AllDo.cons 35 (RV.does_pure (fun γ v L w hl h => h) (fun γ L a w hH hl hA => by have l0 : L 29 = true := hA ⟨29, .data⟩ (by simp) rfl; have e0 := hH.slot 29 44 d29 l0; have g0 := hH.holds 29 l0; rw [r29] at g0; rw [g0] at e0; have l1 : L 34 = true := hA ⟨34, .data⟩ (by simp) rfl; have e1 := hH.slot 34 49 d34 l1; have g1 := hH.holds 34 l1; rw [r34] at g1; rw [g1] at e1; exact ⟨.bool (false), by simp [execOp, go_sem, e0, e1], (r35 _ _).mpr rfl⟩)) ?_
    exact RV.AllDo.nil
  · intro γ a5 w5 L9 hL hLo hH
    have ha := RV.held_act hH hL (by kernel_rfl) (by kernel_rfl)
    have hb8 := hH.glob
    have y0 : γ 0 = .bool (true) := hH.holds 0 (hL 0 (by decide))
    have y1 : γ 1 = .bool (false) := hH.holds 1 (hL 1 (by decide))
    have y2 : γ 2 = .bool (false) := hH.holds 2 (hL 2 (by decide))
    have y3 : γ 3 = .agg #[.int .i64 (aa0), .int .i64 (aa1), .int .i64 (aa2), .int .i64 (aa3), .int .i64 (aa4), .int .i64 (aa5)] := hH.holds 3 (hL 3 (by decide))
    have y4 : γ 4 = .agg #[.int .i64 (bb0), .int .i64 (bb1), .int .i64 (bb2), .int .i64 (bb3), .int .i64 (bb4), .int .i64 (bb5)] := hH.holds 4 (hL 4 (by decide))
    have y5 : γ 5 = .bool (m1) := hH.holds 5 (hL 5 (by decide))
    have y6 : γ 6 = .agg #[.int .i64 (aa0), .int .i64 (aa1), .int .i64 (aa2), .int .i64 (aa3), .int .i64 (aa4), .int .i64 (aa5)] := hH.holds 6 (hL 6 (by decide))
    have y7 : γ 7 = .agg #[.int .i64 (bb0), .int .i64 (bb1), .int .i64 (bb2), .int .i64 (bb3), .int .i64 (bb4), .int .i64 (bb5)] := hH.holds 7 (hL 7 (by decide))
    have y8 : γ 8 = .bool (m1) := hH.holds 8 (hL 8 (by decide))
    have y9 : γ 9 = .bool (false) := hH.holds 9 (hL 9 (by decide))
    have y10 : γ 10 = .bool (false) := hH.holds 10 (hL 10 (by decide))
    have y11 : γ 11 = .bool (false) := hH.holds 11 (hL 11 (by decide))
    have y12 : γ 12 = .agg #[.int .i64 (bb0), .int .i64 (bb1), .int .i64 (bb2), .int .i64 (bb3), .int .i64 (bb4), .int .i64 (bb5)] := hH.holds 12 (hL 12 (by decide))
    have y13 : γ 13 = .agg #[.int .i64 (aa0), .int .i64 (aa1), .int .i64 (aa2), .int .i64 (aa3), .int .i64 (aa4), .int .i64 (aa5)] := hH.holds 13 (hL 13 (by decide))
    have y14 : γ 14 = .bool (m1) := hH.holds 14 (hL 14 (by decide))
    have y15 : γ 15 = .agg #[.int .i64 (aa0), .int .i64 (aa1), .int .i64 (aa2), .int .i64 (aa3), .int .i64 (aa4), .int .i64 (aa5)] := hH.holds 15 (hL 15 (by decide))
    have y16 : γ 16 = .agg #[.int .i64 (bb0), .int .i64 (bb1), .int .i64 (bb2), .int .i64 (bb3), .int .i64 (bb4), .int .i64 (bb5)] := hH.holds 16 (hL 16 (by decide))
    have y17 : γ 17 = .bool (m1) := hH.holds 17 (hL 17 (by decide))
    have y18 : γ 18 = .bool (false) := hH.holds 18 (hL 18 (by decide))
    have y19 : γ 19 = .bool (false) := hH.holds 19 (hL 19 (by decide))
    have y20 : γ 20 = .bool (false) := hH.holds 20 (hL 20 (by decide))
    have y21 : γ 21 = .agg #[.int .i64 (aa0), .int .i64 (aa1), .int .i64 (aa2), .int .i64 (aa3), .int .i64 (aa4), .int .i64 (aa5)] := hH.holds 21 (hL 21 (by decide))
    have y22 : γ 22 = .int .i64 (n) := hH.holds 22 (hL 22 (by decide))
    have y23 : γ 23 = .agg #[.int .i64 (gg0), .int .i64 (gg1), .int .i64 (gg2), .int .i64 (gg3), .int .i64 (gg4), .int .i64 (gg5)] := hH.holds 23 (hL 23 (by decide))
    have y24 : γ 24 = .agg #[.int .i64 (aa0), .int .i64 (aa1), .int .i64 (aa2), .int .i64 (aa3), .int .i64 (aa4), .int .i64 (aa5)] := hH.holds 24 (hL 24 (by decide))
    have y25 : γ 25 = .int .i64 (n) := hH.holds 25 (hL 25 (by decide))
    have y26 : γ 26 = .agg #[.int .i64 (gg0), .int .i64 (gg1), .int .i64 (gg2), .int .i64 (gg3), .int .i64 (gg4), .int .i64 (gg5)] := hH.holds 26 (hL 26 (by decide))
    have y27 : γ 27 = .bool (false) := hH.holds 27 (hL 27 (by decide))
    have y28 : γ 28 = .bool (false) := hH.holds 28 (hL 28 (by decide))
    have y29 : γ 29 = .bool (false) := hH.holds 29 (hL 29 (by decide))
    have y30 : γ 30 = .agg #[.int .i64 (jj0), .int .i64 (jj1), .int .i64 (jj2), .int .i64 (jj3), .int .i64 (jj4), .int .i64 (jj5)] := hH.holds 30 (hL 30 (by decide))
    have y31 : γ 31 = .agg #[.int .i64 (aa0), .int .i64 (aa1), .int .i64 (aa2), .int .i64 (aa3), .int .i64 (aa4), .int .i64 (aa5)] := hH.holds 31 (hL 31 (by decide))
    have y32 : γ 32 = .agg #[.int .i64 (bb0), .int .i64 (bb1), .int .i64 (bb2), .int .i64 (bb3), .int .i64 (bb4), .int .i64 (bb5)] := hH.holds 32 (hL 32 (by decide))
    have y33 : γ 33 = .agg #[.int .i64 (jj0), .int .i64 (jj1), .int .i64 (jj2), .int .i64 (jj3), .int .i64 (jj4), .int .i64 (jj5)] := hH.holds 33 (hL 33 (by decide))
    have y34 : γ 34 = .bool (false) := hH.holds 34 (hL 34 (by decide))
    have y35 : γ 35 = .bool (false) := hH.holds 35 (hL 35 (by decide))
    rw [ha]
    clear ha hH hL hLo
    simp only [RV.putAll, Act.put, List.setIfInBounds_toArray, List.set_cons_zero, List.set_cons_succ, Nat.zero_add, Nat.reduceAdd, y0, y1, y2, y3, y4, y5, y6, y7, y8, y9, y10, y11, y12, y13, y14, y15, y16, y17, y18, y19, y20, y21, y22, y23, y24, y25, y26, y27, y28, y29, y30, y31, y32, y33, y34, y35]
    clear y0 y1 y2 y3 y4 y5 y6 y7 y8 y9 y10 y11 y12 y13 y14 y15 y16 y17 y18 y19 y20 y21 y22 y23 y24 y25 y26 y27 y28 y29 y30 y31 y32 y33 y34 y35
    have C1 : Hid _ := Cells.step C1.out hb8
    have C3 : Hid _ := Cells.step C3.out hb8
    have C4 : Hid _ := Cells.step C4.out hb8
    have hD : Hid _ := b_step hD.out hb8
    clear hb8 s0_ t0_ u0_ s1_ t1_ u1_ s2_ t2_ u2_ s3_ t3_ u3_ s4_ t4_ u4_ s5_ t5_ u5_ C2
    have s0 := (C1.out 0 _ rfl).1
    have t0 := (C3.out 0 _ rfl).1
    have s1 := (C1.out 1 _ rfl).1
    have t1 := (C3.out 1 _ rfl).1
    have s2 := (C1.out 2 _ rfl).1
    have t2 := (C3.out 2 _ rfl).1
    have s3 := (C1.out 3 _ rfl).1
    have t3 := (C3.out 3 _ rfl).1
    have s4 := (C1.out 4 _ rfl).1
    have t4 := (C3.out 4 _ rfl).1
    have s5 := (C1.out 5 _ rfl).1
    have t5 := (C3.out 5 _ rfl).1
    go_wp2_with (fail)
    refine Calls.mono (H8.out _) ?_
    rintro e U ⟨rfl, h⟩
    have C3 : Hid _ := Cells.step C3.out h
    have C4 : Hid _ := Cells.step C4.out h
    have hD : Hid _ := b_step hD.out h
    clear h s0 t0 s1 t1 s2 t2 s3 t3 s4 t4 s5 t5
    have s0 := (C4.out 0 _ rfl).1
    have t0 := (C3.out 0 _ rfl).1
    have s1 := (C4.out 1 _ rfl).1
    have t1 := (C3.out 1 _ rfl).1
    have s2 := (C4.out 2 _ rfl).1
    have t2 := (C3.out 2 _ rfl).1
    have s3 := (C4.out 3 _ rfl).1
    have t3 := (C3.out 3 _ rfl).1
    have s4 := (C4.out 4 _ rfl).1
    have t4 := (C3.out 4 _ rfl).1
    have s5 := (C4.out 5 _ rfl).1
    have t5 := (C3.out 5 _ rfl).1
    cases m2 with
    | false =>
      go_wp2_with (fail)
      go_ret
      exact ⟨rfl, hD.out⟩
    | true =>
      have e : m3 = true := HM.out rfl
      subst e
      go_wp2_with (fail)
      refine Calls.mono (H9.out _) ?_
      rintro e U2 ⟨rfl, h⟩
      have hD : Hid _ := b_step hD.out h
      go_wp2_with (fail)
      go_ret
      exact ⟨rfl, hD.out⟩
end Go.Proofs.Ytocdompopadanaa
