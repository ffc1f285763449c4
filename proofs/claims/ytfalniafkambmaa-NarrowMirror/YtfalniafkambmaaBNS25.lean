/- Two raw shapes at raw poses among a law's arguments, opened. -/
import Derived.Test.YtfalniafkambmaaBNS24
import Derived.Test.YtfalniafkambmaaBNS17
import Derived.Test.YtfalniafkambmaaBNS22
import Derived.Test.YtfalniafkambmaaBNS0
import Derived.Test.YtfalniafkambmaaBNS5
namespace Go.Proofs.Ytfalniafkambmaa
open Go.ChangeShapes Go.WideShapes Go.Deep Go.Joins
set_option linter.unusedVariables false

theorem arr30 {cs : Array Value} (h : cs.size = 30) : ∃ u0 u1 u2 u3 u4 u5 u6 u7 u8 u9 u10 u11 u12 u13 u14 u15 u16 u17 u18 u19 u20 u21 u22 u23 u24 u25 u26 u27 u28 u29, cs = #[u0, u1, u2, u3, u4, u5, u6, u7, u8, u9, u10, u11, u12, u13, u14, u15, u16, u17, u18, u19, u20, u21, u22, u23, u24, u25, u26, u27, u28, u29] := by
  obtain ⟨l⟩ := cs
  match l, h with
  | [u0, u1, u2, u3, u4, u5, u6, u7, u8, u9, u10, u11, u12, u13, u14, u15, u16, u17, u18, u19, u20, u21, u22, u23, u24, u25, u26, u27, u28, u29], _ => exact ⟨u0, u1, u2, u3, u4, u5, u6, u7, u8, u9, u10, u11, u12, u13, u14, u15, u16, u17, u18, u19, u20, u21, u22, u23, u24, u25, u26, u27, u28, u29, rfl⟩
section
variable {H : Type} {enc : TypeId × Value → H} {w : World} {base : Nat} {spare : Nat → Bool} {held : Bool}
set_option maxRecDepth 100000 in
theorem raw5_of {fuel : Nat} {u0 u1 u2 u3 u4 u5 : Value} {z : DataW H × List MemPlace} (hf2 : DataW.trod enc Try.prog w base spare held fuel 26 [u0, u1, u2, u3, u4, u5] = some z) :
    ∃ (k rr x y z : Int) (a : Option Addr) (L : List Pt) (cap : Nat), u0 = .int .i64 k ∧ u1 = .int .i64 rr ∧ u2 = .int .i64 x ∧ u3 = .int .i64 y ∧ u4 = .int .i64 z ∧ u5 = .slice a L.length cap ∧ Lies w (.slice a L.length cap) L ∧ (∀ p ∈ L, p.fits) ∧ (Lit.int .i64 k).wf = true ∧ (Lit.int .i64 rr).wf = true ∧ (Lit.int .i64 x).wf = true ∧ (Lit.int .i64 y).wf = true ∧ (Lit.int .i64 z).wf = true := by
  obtain ⟨xs, n, _, _, _, hxl, hel⟩ := DataW.trod_struct Try.underlying26 hf2
  have hc1 : Try.prog.cellsOf 3 = 1 := by kernel_rfl
  have hc3 : Try.prog.cellsOf 23 = 3 := by kernel_rfl
  have hcs : Try.prog.cellsOf 24 = 1 := by kernel_rfl
  have some_of : ∀ j, j < 4 → ∃ z, xs[j]? = some z := fun j hj => ⟨_, List.getElem?_eq_getElem (by rw [hxl]; exact hj)⟩
  obtain ⟨z0, hz0⟩ := some_of 0 (by omega)
  obtain ⟨z1, hz1⟩ := some_of 1 (by omega)
  obtain ⟨z2, hz2⟩ := some_of 2 (by omega)
  obtain ⟨z3, hz3⟩ := some_of 3 (by omega)
  have e0 := hel 0 _ rfl
  have e1 := hel 1 _ rfl
  have e2 := hel 2 _ rfl
  have e3 := hel 3 _ rfl
  rw [hz0] at e0
  rw [hz1] at e1
  rw [hz2] at e2
  rw [hz3] at e3
  have q0 : DataW.trod enc Try.prog w base spare held n 3 [u0] = some z0 := by have this : DataW.trod enc Try.prog w base spare held n 3 (([u0, u1, u2, u3, u4, u5].drop 0).take (Try.prog.cellsOf 3)) = some z0 := e0; rw [hc1] at this; exact this
  have q1 : DataW.trod enc Try.prog w base spare held n 3 [u1] = some z1 := by have this : DataW.trod enc Try.prog w base spare held n 3 (([u0, u1, u2, u3, u4, u5].drop 1).take (Try.prog.cellsOf 3)) = some z1 := e1; rw [hc1] at this; exact this
  have q2 : DataW.trod enc Try.prog w base spare held n 23 [u2, u3, u4] = some z2 := by have this : DataW.trod enc Try.prog w base spare held n 23 (([u0, u1, u2, u3, u4, u5].drop 2).take (Try.prog.cellsOf 23)) = some z2 := e2; rw [hc3] at this; exact this
  have q3 : DataW.trod enc Try.prog w base spare held n 24 [u5] = some z3 := by have this : DataW.trod enc Try.prog w base spare held n 24 (([u0, u1, u2, u3, u4, u5].drop 5).take (Try.prog.cellsOf 24)) = some z3 := e3; rw [hcs] at this; exact this
  obtain ⟨k, rfl, _, wk⟩ := lit_of q0
  obtain ⟨rr, rfl, _, wr⟩ := lit_of q1
  obtain ⟨ys, m, _, _, _, hyl, hey⟩ := DataW.trod_struct Try.underlying23 q2
  have some_y : ∀ j, j < 3 → ∃ z, ys[j]? = some z := fun j hj => ⟨_, List.getElem?_eq_getElem (by rw [hyl]; exact hj)⟩
  obtain ⟨y0, hy0⟩ := some_y 0 (by omega)
  obtain ⟨y1, hy1⟩ := some_y 1 (by omega)
  obtain ⟨y2, hy2⟩ := some_y 2 (by omega)
  have g0 := hey 0 _ rfl
  have g1 := hey 1 _ rfl
  have g2 := hey 2 _ rfl
  rw [hy0] at g0
  rw [hy1] at g1
  rw [hy2] at g2
  have p0 : DataW.trod enc Try.prog w base spare held m 3 [u2] = some y0 := by have this : DataW.trod enc Try.prog w base spare held m 3 (([u2, u3, u4].drop 0).take (Try.prog.cellsOf 3)) = some y0 := g0; rw [hc1] at this; exact this
  have p1 : DataW.trod enc Try.prog w base spare held m 3 [u3] = some y1 := by have this : DataW.trod enc Try.prog w base spare held m 3 (([u2, u3, u4].drop 1).take (Try.prog.cellsOf 3)) = some y1 := g1; rw [hc1] at this; exact this
  have p2 : DataW.trod enc Try.prog w base spare held m 3 [u4] = some y2 := by have this : DataW.trod enc Try.prog w base spare held m 3 (([u2, u3, u4].drop 2).take (Try.prog.cellsOf 3)) = some y2 := g2; rw [hc1] at this; exact this
  obtain ⟨x, rfl, _, wx⟩ := lit_of p0
  obtain ⟨y, rfl, _, wy⟩ := lit_of p1
  obtain ⟨z, rfl, _, wz⟩ := lit_of p2
  have hs : ∃ a len cap, u5 = .slice a len cap := by
    rcases Deep.open_slice Try.underlying24 q3 with ⟨hcs, _⟩ | ⟨y, l, c, mm, nn, D, Pl, hcs, _⟩
    · simp at hcs; exact ⟨_, _, _, hcs⟩
    · simp at hcs; exact ⟨_, _, _, hcs⟩
  obtain ⟨a, len, cap, rfl⟩ := hs
  obtain ⟨L, rfl, hL, hF⟩ := points_of q3
  exact ⟨k, rr, x, y, z, a, L, cap, rfl, rfl, rfl, rfl, rfl, rfl, hL, hF, wk, wr, wx, wy, wz⟩
set_option maxRecDepth 100000 in
theorem raw6_of {fuel : Nat} {u0 u1 u2 u3 u4 u5 u6 : Value} {z : DataW H × List MemPlace} (hf2 : DataW.trod enc Try.prog w base spare held fuel 31 [u0, u1, u2, u3, u4, u5, u6] = some z) :
    ∃ x0 x1 x2 x3 x4 x5 x6 : Int, u0 = .int .i64 x0 ∧ u1 = .int .i64 x1 ∧ u2 = .int .i64 x2 ∧ u3 = .int .i64 x3 ∧ u4 = .int .i64 x4 ∧ u5 = .int .i64 x5 ∧ u6 = .int .i64 x6 ∧ (Lit.int .i64 x0).wf = true ∧ (Lit.int .i64 x1).wf = true ∧ (Lit.int .i64 x2).wf = true ∧ (Lit.int .i64 x3).wf = true ∧ (Lit.int .i64 x4).wf = true ∧ (Lit.int .i64 x5).wf = true ∧ (Lit.int .i64 x6).wf = true := by
  obtain ⟨xs, n, _, _, _, hxl, hel⟩ := DataW.trod_struct Try.underlying31 hf2
  have hc3 : Try.prog.cellsOf 27 = 3 := by kernel_rfl
  have hc4 : Try.prog.cellsOf 29 = 4 := by kernel_rfl
  have some_of : ∀ j, j < 2 → ∃ z, xs[j]? = some z := fun j hj => ⟨_, List.getElem?_eq_getElem (by rw [hxl]; exact hj)⟩
  obtain ⟨z0, hz0⟩ := some_of 0 (by omega)
  obtain ⟨z1, hz1⟩ := some_of 1 (by omega)
  have e0 := hel 0 _ rfl
  have e1 := hel 1 _ rfl
  rw [hz0] at e0
  rw [hz1] at e1
  have q0 : DataW.trod enc Try.prog w base spare held n 27 [u0, u1, u2] = some z0 := by have this : DataW.trod enc Try.prog w base spare held n 27 (([u0, u1, u2, u3, u4, u5, u6].drop 0).take (Try.prog.cellsOf 27)) = some z0 := e0; rw [hc3] at this; exact this
  have q1 : DataW.trod enc Try.prog w base spare held n 29 [u3, u4, u5, u6] = some z1 := by have this : DataW.trod enc Try.prog w base spare held n 29 (([u0, u1, u2, u3, u4, u5, u6].drop 3).take (Try.prog.cellsOf 29)) = some z1 := e1; rw [hc4] at this; exact this
  obtain ⟨x0, x1, x2, rfl, rfl, rfl, k0, k1, k2⟩ := vec_of q0
  obtain ⟨x3, x4, x5, x6, rfl, rfl, rfl, rfl, k3, k4, k5, k6⟩ := quat_of q1
  exact ⟨x0, x1, x2, x3, x4, x5, x6, rfl, rfl, rfl, rfl, rfl, rfl, rfl, k0, k1, k2, k3, k4, k5, k6⟩
theorem p3_of {m : Nat} {u0 u1 u2 : Value} {z : DataW H × List MemPlace} (h : DataW.trod enc Try.prog w base spare held m 23 [u0, u1, u2] = some z) : ∃ x0 x1 x2 : Int, u0 = .int .i64 x0 ∧ u1 = .int .i64 x1 ∧ u2 = .int .i64 x2 ∧ (Lit.int .i64 x0).wf = true ∧ (Lit.int .i64 x1).wf = true ∧ (Lit.int .i64 x2).wf = true := by
  have hc1 : Try.prog.cellsOf 3 = 1 := by kernel_rfl
  obtain ⟨ys, m, _, _, _, hyl, hey⟩ := DataW.trod_struct Try.underlying23 h
  have some_y : ∀ j, j < 3 → ∃ z, ys[j]? = some z := fun j hj => ⟨_, List.getElem?_eq_getElem (by rw [hyl]; exact hj)⟩
  obtain ⟨y0, hy0⟩ := some_y 0 (by omega)
  have g0 := hey 0 _ rfl
  rw [hy0] at g0
  have p0 : DataW.trod enc Try.prog w base spare held m 3 [u0] = some y0 := by have this : DataW.trod enc Try.prog w base spare held m 3 (([u0, u1, u2].drop 0).take (Try.prog.cellsOf 3)) = some y0 := g0; rw [hc1] at this; exact this
  obtain ⟨y1, hy1⟩ := some_y 1 (by omega)
  have g1 := hey 1 _ rfl
  rw [hy1] at g1
  have p1 : DataW.trod enc Try.prog w base spare held m 3 [u1] = some y1 := by have this : DataW.trod enc Try.prog w base spare held m 3 (([u0, u1, u2].drop 1).take (Try.prog.cellsOf 3)) = some y1 := g1; rw [hc1] at this; exact this
  obtain ⟨y2, hy2⟩ := some_y 2 (by omega)
  have g2 := hey 2 _ rfl
  rw [hy2] at g2
  have p2 : DataW.trod enc Try.prog w base spare held m 3 [u2] = some y2 := by have this : DataW.trod enc Try.prog w base spare held m 3 (([u0, u1, u2].drop 2).take (Try.prog.cellsOf 3)) = some y2 := g2; rw [hc1] at this; exact this
  obtain ⟨x0, rfl, _, k0⟩ := lit_of p0
  obtain ⟨x1, rfl, _, k1⟩ := lit_of p1
  obtain ⟨x2, rfl, _, k2⟩ := lit_of p2
  exact ⟨x0, x1, x2, rfl, rfl, rfl, k0, k1, k2⟩
set_option maxRecDepth 100000 in
set_option maxHeartbeats 2000000 in
theorem open_two {r : Reach} {b0 : Nat} {v : Value} {d : DataW H} {p : List MemPlace} (hv : Value.okWide Try.prog w r b0 33 v) (h : DataW.Trod enc Try.prog w base spare held 33 v d p) :
    ∃ (k1 r1 x1 y1 z1 : Int) (o1 : Option Addr) (L1 : List Pt) (c1 : Nat) (k2 r2 x2 y2 z2 : Int) (o2 : Option Addr) (L2 : List Pt) (c2 : Nat) (p0 p1 p2 p3 p4 p5 p6 q0 q1 q2 q3 q4 q5 q6 nr wx wy wz : Int), v = .agg #[.int .i64 k1, .int .i64 r1, .int .i64 x1, .int .i64 y1, .int .i64 z1, .slice o1 L1.length c1, .int .i64 k2, .int .i64 r2, .int .i64 x2, .int .i64 y2, .int .i64 z2, .slice o2 L2.length c2, .int .i64 p0, .int .i64 p1, .int .i64 p2, .int .i64 p3, .int .i64 p4, .int .i64 p5, .int .i64 p6, .int .i64 q0, .int .i64 q1, .int .i64 q2, .int .i64 q3, .int .i64 q4, .int .i64 q5, .int .i64 q6, .int .i64 nr, .int .i64 wx, .int .i64 wy, .int .i64 wz] ∧ Lies w (.slice o1 L1.length c1) L1 ∧ (∀ p ∈ L1, p.fits) ∧ Lies w (.slice o2 L2.length c2) L2 ∧ (∀ p ∈ L2, p.fits) ∧ ∀ v ∈ ([k1, r1, x1, y1, z1, k2, r2, x2, y2, z2, p0, p1, p2, p3, p4, p5, p6, q0, q1, q2, q3, q4, q5, q6, nr, wx, wy, wz] : List Int), -9223372036854775808 ≤ v ∧ v ≤ 9223372036854775807 := by
  obtain ⟨cs, rfl, hsz⟩ := okWide_struct Try.underlying33 hv
  have hC : Try.prog.cellsOf 33 = 30 := by kernel_rfl
  obtain ⟨u0, u1, u2, u3, u4, u5, u6, u7, u8, u9, u10, u11, u12, u13, u14, u15, u16, u17, u18, u19, u20, u21, u22, u23, u24, u25, u26, u27, u28, u29, rfl⟩ := arr30 (hsz.trans hC)
  obtain ⟨fuel, hf⟩ := h
  have hf2 : DataW.trod enc Try.prog w base spare held fuel 33 [u0, u1, u2, u3, u4, u5, u6, u7, u8, u9, u10, u11, u12, u13, u14, u15, u16, u17, u18, u19, u20, u21, u22, u23, u24, u25, u26, u27, u28, u29] = some (d, p) := hf
  obtain ⟨xs, n, _, _, _, hxl, hel⟩ := DataW.trod_struct Try.underlying33 hf2
  have some_of : ∀ j, j < 6 → ∃ z, xs[j]? = some z := fun j hj => ⟨_, List.getElem?_eq_getElem (by rw [hxl]; exact hj)⟩
  have hc0_ : Try.prog.cellsOf 26 = 6 := by kernel_rfl
  obtain ⟨zz0, hz0⟩ := some_of 0 (by omega)
  have e0 := hel 0 _ rfl
  rw [hz0] at e0
  have f0 : DataW.trod enc Try.prog w base spare held n 26 [u0, u1, u2, u3, u4, u5] = some zz0 := by have this : DataW.trod enc Try.prog w base spare held n 26 (([u0, u1, u2, u3, u4, u5, u6, u7, u8, u9, u10, u11, u12, u13, u14, u15, u16, u17, u18, u19, u20, u21, u22, u23, u24, u25, u26, u27, u28, u29].drop 0).take (Try.prog.cellsOf 26)) = some zz0 := e0; rw [hc0_] at this; exact this
  have hc1_ : Try.prog.cellsOf 26 = 6 := by kernel_rfl
  obtain ⟨zz1, hz1⟩ := some_of 1 (by omega)
  have e1 := hel 1 _ rfl
  rw [hz1] at e1
  have f1 : DataW.trod enc Try.prog w base spare held n 26 [u6, u7, u8, u9, u10, u11] = some zz1 := by have this : DataW.trod enc Try.prog w base spare held n 26 (([u0, u1, u2, u3, u4, u5, u6, u7, u8, u9, u10, u11, u12, u13, u14, u15, u16, u17, u18, u19, u20, u21, u22, u23, u24, u25, u26, u27, u28, u29].drop 6).take (Try.prog.cellsOf 26)) = some zz1 := e1; rw [hc1_] at this; exact this
  have hc2_ : Try.prog.cellsOf 31 = 7 := by kernel_rfl
  obtain ⟨zz2, hz2⟩ := some_of 2 (by omega)
  have e2 := hel 2 _ rfl
  rw [hz2] at e2
  have f2 : DataW.trod enc Try.prog w base spare held n 31 [u12, u13, u14, u15, u16, u17, u18] = some zz2 := by have this : DataW.trod enc Try.prog w base spare held n 31 (([u0, u1, u2, u3, u4, u5, u6, u7, u8, u9, u10, u11, u12, u13, u14, u15, u16, u17, u18, u19, u20, u21, u22, u23, u24, u25, u26, u27, u28, u29].drop 12).take (Try.prog.cellsOf 31)) = some zz2 := e2; rw [hc2_] at this; exact this
  have hc3_ : Try.prog.cellsOf 31 = 7 := by kernel_rfl
  obtain ⟨zz3, hz3⟩ := some_of 3 (by omega)
  have e3 := hel 3 _ rfl
  rw [hz3] at e3
  have f3 : DataW.trod enc Try.prog w base spare held n 31 [u19, u20, u21, u22, u23, u24, u25] = some zz3 := by have this : DataW.trod enc Try.prog w base spare held n 31 (([u0, u1, u2, u3, u4, u5, u6, u7, u8, u9, u10, u11, u12, u13, u14, u15, u16, u17, u18, u19, u20, u21, u22, u23, u24, u25, u26, u27, u28, u29].drop 19).take (Try.prog.cellsOf 31)) = some zz3 := e3; rw [hc3_] at this; exact this
  have hc4_ : Try.prog.cellsOf 3 = 1 := by kernel_rfl
  obtain ⟨zz4, hz4⟩ := some_of 4 (by omega)
  have e4 := hel 4 _ rfl
  rw [hz4] at e4
  have f4 : DataW.trod enc Try.prog w base spare held n 3 [u26] = some zz4 := by have this : DataW.trod enc Try.prog w base spare held n 3 (([u0, u1, u2, u3, u4, u5, u6, u7, u8, u9, u10, u11, u12, u13, u14, u15, u16, u17, u18, u19, u20, u21, u22, u23, u24, u25, u26, u27, u28, u29].drop 26).take (Try.prog.cellsOf 3)) = some zz4 := e4; rw [hc4_] at this; exact this
  have hc5_ : Try.prog.cellsOf 23 = 3 := by kernel_rfl
  obtain ⟨zz5, hz5⟩ := some_of 5 (by omega)
  have e5 := hel 5 _ rfl
  rw [hz5] at e5
  have f5 : DataW.trod enc Try.prog w base spare held n 23 [u27, u28, u29] = some zz5 := by have this : DataW.trod enc Try.prog w base spare held n 23 (([u0, u1, u2, u3, u4, u5, u6, u7, u8, u9, u10, u11, u12, u13, u14, u15, u16, u17, u18, u19, u20, u21, u22, u23, u24, u25, u26, u27, u28, u29].drop 27).take (Try.prog.cellsOf 23)) = some zz5 := e5; rw [hc5_] at this; exact this
  clear hel some_of hxl hf2 hf hv
  obtain ⟨k1, r1, x1, y1, z1, o1, L1, c1, rfl, rfl, rfl, rfl, rfl, rfl, hL1, hF1, a0, a1, a2, a3, a4⟩ := raw5_of f0
  obtain ⟨k2, r2, x2, y2, z2, o2, L2, c2, rfl, rfl, rfl, rfl, rfl, rfl, hL2, hF2, a5, a6, a7, a8, a9⟩ := raw5_of f1
  obtain ⟨p0, p1, p2, p3, p4, p5, p6, rfl, rfl, rfl, rfl, rfl, rfl, rfl, b0_, b1_, b2_, b3_, b4_, b5_, b6_⟩ := raw6_of f2
  obtain ⟨q0, q1, q2, q3, q4, q5, q6, rfl, rfl, rfl, rfl, rfl, rfl, rfl, d0_, d1_, d2_, d3_, d4_, d5_, d6_⟩ := raw6_of f3
  obtain ⟨nr, rfl, _, g0_⟩ := lit_of f4
  obtain ⟨wx, wy, wz, rfl, rfl, rfl, g1_, g2_, g3_⟩ := p3_of f5
  refine ⟨k1, r1, x1, y1, z1, o1, L1, c1, k2, r2, x2, y2, z2, o2, L2, c2, p0, p1, p2, p3, p4, p5, p6, q0, q1, q2, q3, q4, q5, q6, nr, wx, wy, wz, rfl, hL1, hF1, hL2, hF2, fun v hv => ?_⟩
  have wf : (Lit.int .i64 v).wf = true := by
    simp only [List.mem_cons, List.not_mem_nil, or_false] at hv
    rcases hv with rfl | rfl | rfl | rfl | rfl | rfl | rfl | rfl | rfl | rfl | rfl | rfl | rfl | rfl | rfl | rfl | rfl | rfl | rfl | rfl | rfl | rfl | rfl | rfl | rfl | rfl | rfl | rfl <;> assumption
  have := bounds_i64 wf
  omega
end
end Go.Proofs.Ytfalniafkambmaa
namespace Go.Proofs.Ytfalniafkambmaa
namespace NS
set_option linter.unusedVariables false

theorem best_mem (g : Pt → Int) : ∀ (L : List Pt) (s : Bs) (A : List Pt), (s = none ∨ ∃ m ∈ A, s = some (m, g m)) → (bestL g s L = none ∧ L = []) ∨ ∃ n, (n ∈ A ∨ n ∈ L) ∧ bestL g s L = some (n, g n)
  | [], s, A, h => by
    rcases h with rfl | ⟨m, hm, rfl⟩
    · exact Or.inl ⟨rfl, rfl⟩
    · exact Or.inr ⟨m, Or.inl hm, rfl⟩
  | p :: r, s, A, h => by
    have hs : ∃ m ∈ p :: A, bestS g s p = some (m, g m) := by
      rcases h with rfl | ⟨m, hm, rfl⟩
      · exact ⟨p, List.mem_cons_self, rfl⟩
      · unfold bestS
        dsimp only
        split
        · exact ⟨p, List.mem_cons_self, rfl⟩
        · exact ⟨m, List.mem_cons_of_mem _ hm, rfl⟩
    have key : ∀ (r : List Pt) (s : Bs) (A : List Pt), (∃ m ∈ A, s = some (m, g m)) → ∃ n, (n ∈ A ∨ n ∈ r) ∧ bestL g s r = some (n, g n) := by
      intro r
      induction r with
      | nil => rintro s A ⟨m, hm, rfl⟩; exact ⟨m, Or.inl hm, rfl⟩
      | cons x t ih =>
        rintro s A ⟨m, hm, rfl⟩
        have h2 : ∃ k ∈ x :: A, bestS g (some (m, g m)) x = some (k, g k) := by
          unfold bestS
          dsimp only
          split
          · exact ⟨x, List.mem_cons_self, rfl⟩
          · exact ⟨m, List.mem_cons_of_mem _ hm, rfl⟩
        obtain ⟨n, hn, e⟩ := ih _ (x :: A) h2
        refine ⟨n, ?_, e⟩
        rcases hn with hn | hn
        · rcases List.mem_cons.1 hn with rfl | hn
          · exact Or.inr List.mem_cons_self
          · exact Or.inl hn
        · exact Or.inr (List.mem_cons_of_mem _ hn)
    obtain ⟨n, hn, e⟩ := key r (bestS g s p) (p :: A) hs
    refine Or.inr ⟨n, ?_, e⟩
    rcases hn with hn | hn
    · rcases List.mem_cons.1 hn with rfl | hn
      · exact Or.inr List.mem_cons_self
      · exact Or.inl hn
    · exact Or.inr (List.mem_cons_of_mem _ hn)
theorem dot_minus (n q p : Pt) : n.dot (q.sub p) = n.dot q - n.dot p := by
  unfold Pt.dot Pt.sub
  dsimp only
  simp only [Int.mul_sub]
  omega
theorem at_of_mem {P : List Pt} {p : Pt} (h : p ∈ P) : ∃ i, i < P.length ∧ pt P i = p := by
  obtain ⟨i, hi, e⟩ := List.getElem_of_mem h
  exact ⟨i, hi, by unfold pt; rw [List.getElem?_eq_getElem hi, e]; rfl⟩
theorem room_le {n p q : Pt} {P Q : List Pt} (hp : p ∈ P) (hq : q ∈ Q) : room n P Q ≤ n.dot (q.sub p) := by
  obtain ⟨i, hi, rfl⟩ := at_of_mem hp
  obtain ⟨j, hj, rfl⟩ := at_of_mem hq
  have h1 := loK_le n Q (Q.length - 1) j (by omega)
  have h2 := hiK_ge n P (P.length - 1) i (by omega)
  rw [dot_minus]
  unfold room loP hiP
  omega
theorem up_dn (n : Pt) : dn n ≤ up n := by unfold up; split <;> omega
/-- A gap by its size is no more than the room. -/
theorem gap_room {n : Pt} {P Q : List Pt} (hd : 0 < dn n) : gap0 n P Q * (if 0 ≤ gap0 n P Q then up n else dn n) ≤ room n P Q := by
  have hu := up_dn n
  unfold gap0
  by_cases hp0 : 0 ≤ room n P Q
  · rw [if_pos hp0, Int.tdiv_eq_ediv_of_nonneg hp0]
    have h0 : 0 ≤ room n P Q / up n := Int.ediv_nonneg hp0 (by omega)
    rw [if_pos h0]
    exact Int.ediv_mul_le _ (by omega)
  · rw [if_neg hp0, Int.tdiv_eq_ediv_of_nonneg (by omega)]
    have h1 : 1 ≤ (dn n - 1 - room n P Q) / dn n := (Int.le_ediv_iff_mul_le hd).2 (by omega)
    rw [if_neg (by omega)]
    have h2 := Int.emod_add_mul_ediv (dn n - 1 - room n P Q) (dn n)
    have h3 := Int.emod_lt_of_pos (dn n - 1 - room n P Q) hd
    rw [Int.neg_mul, Int.mul_comm]
    omega
theorem both_of {n : Pt} : ∀ {L : List Pt}, n ∈ both L → ∃ p ∈ L, p.lng ≠ Pt.O ∧ (n = p.lng ∨ n = p.lng.neg)
  | [], h => by cases h
  | p :: r, h => by
    unfold both at h
    split at h
    · obtain ⟨q, hq, r1⟩ := both_of h
      exact ⟨q, List.mem_cons_of_mem _ hq, r1⟩
    · next hne =>
      rcases List.mem_cons.1 h with rfl | h
      · exact ⟨p, List.mem_cons_self, hne, Or.inl rfl⟩
      · rcases List.mem_cons.1 h with rfl | h
        · exact ⟨p, List.mem_cons_self, hne, Or.inr rfl⟩
        · obtain ⟨q, hq, r1⟩ := both_of h
          exact ⟨q, List.mem_cons_of_mem _ hq, r1⟩
theorem both_nil : ∀ {L : List Pt}, both L = [] → ∀ p ∈ L, p.lng = Pt.O
  | [], _, _, h => by cases h
  | p :: r, e, q, h => by
    unfold both at e
    split at e
    · next hp =>
      rcases List.mem_cons.1 h with rfl | h
      · exact hp
      · exact both_nil e q h
    · cases e
theorem dn_pos {n : Pt} (h : n ≠ Pt.O) : 0 < dn n := by
  obtain ⟨h0, _, h2⟩ := dn_is n
  refine Int.lt_of_not_ge fun hle => h ?_
  have e : dn n = 0 := by omega
  rw [e] at h2
  have q1 := sq0 n.x
  have q2 := sq0 n.y
  have q3 := sq0 n.z
  have z : ∀ x : Int, x * x ≤ 0 → x = 0 := fun x hx => by
    rcases Int.mul_eq_zero.1 (Int.le_antisymm hx (sq0 x)) with h | h <;> exact h
  unfold Pt.dot at h2
  obtain ⟨x, y, w⟩ := n
  dsimp only at *
  rw [z x (by omega), z y (by omega), z w (by omega)]; rfl
theorem lng_short {p : Pt} (h : p.lng = Pt.O) : p.short = Pt.O := by
  unfold Pt.lng at h
  split at h
  · assumption
  · next hs =>
    have := (lngF_is 20 p.short (Nat.le_refl _) (short_in p) (far_zero hs)).2
    rw [h] at this
    exact absurd this (by decide)
theorem neg_ne {p : Pt} (h : p ≠ Pt.O) : p.neg ≠ Pt.O := fun e => h (by
  obtain ⟨x, y, z⟩ := p
  unfold Pt.neg Pt.O at e
  simp only [Pt.mk.injEq] at e
  unfold Pt.O
  congr 1 <;> omega)
/-- THE MATHEMATICS OF LAYER 9's THEOREM. -/
theorem told_proof {a b : Cr} (hA : 2 < a.P.length → ∃ n ∈ a.A, n ≠ Pt.O ∧ n.inB 1048576 = true) (ha : ∀ p ∈ a.P, p.inB 16777216 = true) (hb : ∀ p ∈ b.P, p.inB 16777216 = true) :
    dn (told a b).1 ≠ 0 ∧ ∀ p ∈ a.P, ∀ q ∈ b.P, ((told a b).2 + a.r + b.r) * (if 0 ≤ (told a b).2 + a.r + b.r then up (told a b).1 else dn (told a b).1) ≤ (told a b).1.dot (q.sub p) := by
  rcases best_mem (gapZ a.P b.P a.r b.r) (both (candL a b)) none [] (Or.inl rfl) with ⟨h, hn⟩ | ⟨n, hn, h⟩
  · have e : told a b = (⟨0, 0, 1048576⟩, -a.r - b.r) := by unfold told; rw [h]
    have hall := both_nil hn
    rw [e]
    dsimp only
    refine ⟨fun e0 => ?_, fun p hp q hq => ?_⟩
    · have := dn_pos (n := ⟨0, 0, 1048576⟩) (by decide)
      omega
    · have e1 : -a.r - b.r + a.r + b.r = 0 := by omega
      rw [e1, Int.zero_mul]
      by_cases h2 : 2 < a.P.length ∧ 2 < b.P.length
      · obtain ⟨n, hn1, hn2, hn3⟩ := hA h2.1
        have := lng_short (hall n (by unfold candL; simp [hn1]))
        exact absurd this (short_ne (inB_mono hn3 (by decide)) hn2)
      · have hw : wayD p q ∈ candL a b := by
          unfold candL wayL
          rw [if_neg h2]
          refine List.mem_append_right _ (List.mem_append_right _ ?_)
          refine List.mem_flatMap.2 ⟨p, hp, ?_⟩
          unfold wayR
          exact List.mem_flatMap.2 ⟨q, hq, List.mem_cons_self⟩
        have hs := lng_short (hall _ hw)
        have hd : (q.sub p).inB 4398046511104 = true := by
          have h3 := (Pt.inB_iff _ _).1 (ha p hp)
          have h4 := (Pt.inB_iff _ _).1 (hb q hq)
          rw [Pt.inB_iff]
          unfold Pt.sub
          dsimp only
          omega
        have hz : q.sub p = Pt.O := by
          refine Classical.byContradiction fun hne => ?_
          have h5 := short_ne hd hne
          have h6 : (wayD p q).inB 4398046511104 = true := inB_mono (short_in _) (by decide)
          exact absurd hs (short_ne h6 h5)
        rw [hz]
        decide
  · have e : told a b = (n, gapZ a.P b.P a.r b.r n) := by unfold told; rw [h]
    have hn : n ∈ both (candL a b) := by rcases hn with hn | hn; cases hn; exact hn
    obtain ⟨c, _, hc, hcn⟩ := both_of hn
    have hne : n ≠ Pt.O := by rcases hcn with rfl | rfl; exact hc; exact neg_ne hc
    have hd := dn_pos hne
    rw [e]
    dsimp only
    refine ⟨by omega, fun p hp q hq => ?_⟩
    have hz : gapZ a.P b.P a.r b.r n + a.r + b.r = gap0 n a.P b.P := by unfold gapZ; omega
    rw [hz]
    exact Int.le_trans (gap_room hd) (room_le hp hq)
end NS
end Go.Proofs.Ytfalniafkambmaa
namespace Go.Proofs.Ytfalniafkambmaa
namespace NS
set_option linter.unusedVariables false

/-- A gap by its size is not far below the room. -/
theorem gap_low {n : Pt} {P Q : List Pt} (hd : 0 < dn n) (hr : -211106232532992 ≤ room n P Q) (hd2 : dn n ≤ 33554432) : -281474976710656 ≤ gap0 n P Q * (if 0 ≤ gap0 n P Q then up n else dn n) := by
  have hu := up_dn n
  unfold gap0
  by_cases hp0 : 0 ≤ room n P Q
  · rw [if_pos hp0, Int.tdiv_eq_ediv_of_nonneg hp0]
    have h0 : 0 ≤ room n P Q / up n := Int.ediv_nonneg hp0 (by omega)
    rw [if_pos h0]
    have := Int.mul_nonneg h0 (show 0 ≤ up n by omega)
    omega
  · rw [if_neg hp0, Int.tdiv_eq_ediv_of_nonneg (by omega)]
    have h1 : 1 ≤ (dn n - 1 - room n P Q) / dn n := (Int.le_ediv_iff_mul_le hd).2 (by omega)
    rw [if_neg (by omega)]
    have h2 := Int.ediv_mul_le (dn n - 1 - room n P Q) (show dn n ≠ 0 by omega)
    rw [Int.neg_mul]
    omega
theorem room_in {a b : Cr} (ha : mayC a = true) (hb : mayC b = true) {n : Pt} (hn : n.inB 1048576 = true) : -211106232532992 ≤ room n a.P b.P ∧ room n a.P b.P ≤ 211106232532992 := by
  obtain ⟨f1, f2, f3, f4⟩ := may_facts ha
  obtain ⟨g1, g2, g3, g4⟩ := may_facts hb
  have k1 := loK_in (C := 52776558133248) hn g2 (by decide) (b.P.length - 1) (by omega)
  have k2 := hiK_in (C := 52776558133248) hn f2 (by decide) (a.P.length - 1) (by omega)
  unfold room loP hiP
  omega
theorem gap_rng {n : Pt} {P Q : List Pt} (hd : 0 < dn n) (hd2 : dn n ≤ 33554432) (hr : -211106232532992 ≤ room n P Q ∧ room n P Q ≤ 211106232532992) : -281474976710656 ≤ gap0 n P Q ∧ gap0 n P Q ≤ 281474976710656 := by
  have hu := up_dn n
  unfold gap0
  by_cases hp0 : 0 ≤ room n P Q
  · rw [if_pos hp0]
    have := tdiv_rng (a := room n P Q) (b := up n) (C := 211106232532992) ⟨hp0, by omega⟩ (by omega)
    omega
  · rw [if_neg hp0]
    have := tdiv_rng (a := dn n - 1 - room n P Q) (b := dn n) (C := 281474976710655) ⟨by omega, by omega⟩ hd
    omega
/-- All that Sound asks, in numbers. -/
theorem sound_facts {a b : Cr} (ha : mayC a = true) (hb : mayC b = true) (hA : 2 < a.P.length → ∃ n ∈ a.A, n ≠ Pt.O ∧ n.inB 1048576 = true) :
    (told a b).1.inB 1048576 = true ∧ 0 < dn (told a b).1 ∧ (-281474976710656 ≤ (told a b).2 + a.r + b.r ∧ (told a b).2 + a.r + b.r ≤ 281474976710656) ∧
    ∃ k, k = (if 0 ≤ (told a b).2 + a.r + b.r then up (told a b).1 else dn (told a b).1) ∧ (-281474976710656 ≤ ((told a b).2 + a.r + b.r) * k ∧ ((told a b).2 + a.r + b.r) * k ≤ 281474976710656) ∧
    ∀ p ∈ a.P, ∀ q ∈ b.P, ((told a b).2 + a.r + b.r) * k ≤ (told a b).1.dot (q.sub p) := by
  obtain ⟨f1, f2, f3, f4⟩ := may_facts ha
  obtain ⟨g1, g2, g3, g4⟩ := may_facts hb
  obtain ⟨h1, h2⟩ := told_proof (b := b) hA f2 g2
  refine ⟨?_, ?_, ?_, _, rfl, ?_, h2⟩
  · rcases best_mem (gapZ a.P b.P a.r b.r) (both (candL a b)) none [] (Or.inl rfl) with ⟨h, hn⟩ | ⟨n, hn, h⟩
    · unfold told; rw [h]; exact (by decide : Pt.inB ⟨0, 0, 1048576⟩ 1048576 = true)
    · unfold told; rw [h]
      rcases hn with hn | hn
      · cases hn
      · exact (both_long _ _ hn).1
  · have := (dn_is (told a b).1).1
    omega
  · rcases best_mem (gapZ a.P b.P a.r b.r) (both (candL a b)) none [] (Or.inl rfl) with ⟨h, hn⟩ | ⟨n, hn, h⟩
    · have e : told a b = (⟨0, 0, 1048576⟩, -a.r - b.r) := by unfold told; rw [h]
      rw [e]; dsimp only; omega
    · have e : told a b = (n, gapZ a.P b.P a.r b.r n) := by unfold told; rw [h]
      have hn : n ∈ both (candL a b) := by rcases hn with hn | hn; cases hn; exact hn
      obtain ⟨q1, q2⟩ := both_long _ _ hn
      have hz : gapZ a.P b.P a.r b.r n + a.r + b.r = gap0 n a.P b.P := by unfold gapZ; omega
      rw [e]; dsimp only; rw [hz]
      exact gap_rng (by omega) (by have := (dn_rng (inB_mono (n := 16777216) q1 (by decide))).2; omega) (room_in ha hb q1)
  · rcases best_mem (gapZ a.P b.P a.r b.r) (both (candL a b)) none [] (Or.inl rfl) with ⟨h, hn⟩ | ⟨n, hn, h⟩
    · have e : told a b = (⟨0, 0, 1048576⟩, -a.r - b.r) := by unfold told; rw [h]
      have e1 : -a.r - b.r + a.r + b.r = 0 := by omega
      rw [e]; dsimp only; rw [e1, Int.zero_mul]; decide
    · have e : told a b = (n, gapZ a.P b.P a.r b.r n) := by unfold told; rw [h]
      have hn : n ∈ both (candL a b) := by rcases hn with hn | hn; cases hn; exact hn
      obtain ⟨q1, q2⟩ := both_long _ _ hn
      have hz : gapZ a.P b.P a.r b.r n + a.r + b.r = gap0 n a.P b.P := by unfold gapZ; omega
      have hr := room_in ha hb q1
      rw [e]; dsimp only; rw [hz]
      have := gap_room (n := n) (P := a.P) (Q := b.P) (by omega)
      have := gap_low (n := n) (P := a.P) (Q := b.P) (by omega) hr.1 (by have := (dn_rng (inB_mono (n := 16777216) q1 (by decide))).2; omega)
      omega
end NS
end Go.Proofs.Ytfalniafkambmaa
namespace Go.Proofs.Ytfalniafkambmaa
open Go.RowKit Go.Shelf
set_option linter.unusedVariables false

set_option maxHeartbeats 8000000 in
set_option maxRecDepth 100000 in
theorem sound_any (A B : List Pt) (n : Pt) (gp ar br g kk : Int) (ao1 bo1 : Option Addr) (ac1 bc1 : Nat) (va2 va3 vb2 vb3 : Value) (w0 : World) (hA : Lies w0 (.slice ao1 A.length ac1) A) (hB : Lies w0 (.slice bo1 B.length bc1) B)
    (hn : n.inB 1048576 = true) (hd : 0 < dn n) (har : 0 ≤ ar ∧ ar ≤ 65536) (hbr : 0 ≤ br ∧ br ≤ 65536) (hg : gp + ar + br = g) (hgr : -281474976710656 ≤ g ∧ g ≤ 281474976710656) (hpa : ∀ p ∈ A, p.inB 16777216 = true) (hpb : ∀ p ∈ B, p.inB 16777216 = true) (hk : kk = if 0 ≤ g then up n else dn n) (hkr : -281474976710656 ≤ g * kk ∧ g * kk ≤ 281474976710656) (hs : ∀ p ∈ A, ∀ q ∈ B, g * kk ≤ n.dot (q.sub p)) (hla : A.length < 1099511627776) (hlb : B.length < 1099511627776) :
    Calls Try.prog 8 #[.agg #[.slice ao1 A.length ac1, va2, va3, .int .i64 ar], .agg #[.slice bo1 B.length bc1, vb2, vb3, .int .i64 br], .agg #[.int .i64 n.x, .int .i64 n.y, .int .i64 n.z, .int .i64 gp]] w0 fun e W => e = .returned (.bool true) ∧ Below w0.heap.size w0 W := by
  have HSZ : Hid (∀ w', Calls Try.prog 20 #[.agg #[.int .i64 n.x, .int .i64 n.y, .int .i64 n.z]] w' fun e W => e = .returned (.tuple #[.int .i64 (dn n), .int .i64 (up n)]) ∧ Below w'.heap.size w' W) := fun w' => by
    have h := rsizes9_any n w'
    have hin : n.inB 16777216 = true := inB_mono hn (by decide)
    rw [show dnT n = dn n by simp [dnT, hin], show upT n = up n by simp [upT, hin]] at h
    exact h
  have HAC : Hid _ := hA.form
  have HBC : Hid _ := hB.form
  have HPA : Hid _ := hpa
  have HPB : Hid _ := hpb
  have HS : Hid _ := hs
  have HN : Hid (n.inB 536870912 = true) := inB_mono hn (by decide)
  generalize hdn : dn n = d at *
  generalize hup : up n = u at *
  have hd0 : (d == 0) = false := beq_eq_false_iff_ne.2 (by omega)
  have HK : Hid (kk = if 0 ≤ g then u else d) := hk
  obtain ⟨g1, hg1⟩ : ∃ x, gp + ar = x := ⟨_, rfl⟩
  have w1 : IntKind.i64.wrap (gp + ar) = g1 := by rw [hg1, IntKind.wrap_i64]; omega
  have w2 : IntKind.i64.wrap (g1 + br) = g := by rw [← hg1, hg, IntKind.wrap_i64]; omega
  obtain ⟨gz, hgk⟩ : ∃ x, g * kk = x := ⟨_, rfl⟩
  have w3 : IntKind.i64.wrap (g * kk) = gz := by rw [hgk, IntKind.wrap_i64]; omega
  rw [hgk] at HS
  clear hA hB hpa hpb hs hk hkr hn hdn hup hg hg1 hgr hgk har hbr
  generalize hla' : A.length = la at *
  generalize hlb' : B.length = lb at *
  obtain ⟨V1, hV1⟩ : ∃ V, V = ((w0.alloc (.cells #[.slice ao1 la ac1, va2, va3, .int .i64 ar] 36)).alloc (.cells #[.slice bo1 lb bc1, vb2, vb3, .int .i64 br] 36)).alloc (.cells #[.int .i64 n.x, .int .i64 n.y, .int .i64 n.z, .int .i64 gp] 40) := ⟨_, rfl⟩
  have CA : Hid (Cel V1 w0.heap.size [.slice ao1 la ac1, va2, va3, .int .i64 ar]) := by show Cel _ _ _; rw [hV1]; exact ((Cel.new w0 [.slice ao1 la ac1, va2, va3, .int .i64 ar] _).step (n_after _ _)).step (n_after _ _)
  have CB : Hid (Cel V1 (w0.heap.size + 1) [.slice bo1 lb bc1, vb2, vb3, .int .i64 br]) := by show Cel _ _ _; rw [hV1]; have h9 := (Cel.new (w0.alloc (.cells #[.slice ao1 la ac1, va2, va3, .int .i64 ar] 36)) [.slice bo1 lb bc1, vb2, vb3, .int .i64 br] 36).step (n_after _ (.cells #[.int .i64 n.x, .int .i64 n.y, .int .i64 n.z, .int .i64 gp] 40)); rw [World.size_alloc] at h9; exact h9
  have CX : Hid (Cel V1 (w0.heap.size + 1 + 1) [.int .i64 n.x, .int .i64 n.y, .int .i64 n.z, .int .i64 gp]) := by show Cel _ _ _; rw [hV1]; have h9 := Cel.new ((w0.alloc (.cells #[.slice ao1 la ac1, va2, va3, .int .i64 ar] 36)).alloc (.cells #[.slice bo1 lb bc1, vb2, vb3, .int .i64 br] 36)) [.int .i64 n.x, .int .i64 n.y, .int .i64 n.z, .int .i64 gp] 40; rw [World.size_alloc, World.size_alloc] at h9; exact h9
  have HB : Hid (Below w0.heap.size w0 V1) := by show Below _ _ _; rw [hV1]; exact b_step (b_step (n_after _ _) (n_after _ _)) (n_after _ _)
  obtain ⟨ab, hab⟩ : ∃ b, b = w0.heap.size := ⟨_, rfl⟩
  obtain ⟨bb, hbb⟩ : ∃ b, b = w0.heap.size + 1 := ⟨_, rfl⟩
  obtain ⟨xb, hxb⟩ : ∃ b, b = w0.heap.size + 1 + 1 := ⟨_, rfl⟩
  rw [← hxb] at CX
  rw [← hbb] at CB
  rw [← hab] at CA
  go_enter Try.func8, Try.ntmps8
  go_upto_region 1 with fail
  rw [← hV1, ← hxb, ← hbb, ← hab]
  clear hV1 hxb hbb hab
  obtain ⟨a3, b3, x0, x1, x2, x3⟩ : _ ∧ _ ∧ _ ∧ _ ∧ _ ∧ _ := ⟨CA.out 3 _ rfl, CB.out 3 _ rfl, CX.out 0 _ rfl, CX.out 1 _ rfl, CX.out 2 _ rfl, CX.out 3 _ rfl⟩
  go_wp2_with (fail)
  refine Calls.mono (HSZ.out _) ?_
  rintro e V2 ⟨rfl, hb⟩
  have CA : Hid _ := Cel.step CA.out hb
  have CB : Hid _ := Cel.step CB.out hb
  have CX : Hid _ := Cel.step CX.out hb
  have HB : Hid _ := b_step HB.out hb
  clear hb a3 b3 x0 x1 x2 x3 HSZ
  go_upto_if 32 with fail
  go_cut [10] from 11 (fun s10 wx => s10 = .int .i64 kk ∧ wx = V2)
  case first =>
    by_cases hge : 0 ≤ g
    · have e9 := HK.out
      rw [if_pos hge] at e9
      clear HK
      go_wp2_with (fail)
      go_meet
      case rel => exact ⟨by rw [e9], rfl⟩
    · have e9 := HK.out
      rw [if_neg hge] at e9
      clear HK
      go_wp2_with (fail)
      go_meet
      case rel => exact ⟨by rw [e9], rfl⟩
  case rest =>
    obtain ⟨rfl, e9⟩ := hcut
    subst e9
    clear HK hd0 hd
    go_wp2_with (fail)
    go_loopg [11] la (fun gm s wr => ∃ i : Nat, s = .int .i64 (i : Int) ∧ i ≤ la ∧ gm = la - i ∧ Hid (Below wc.heap.size wc wr))
    case atStart => exact ⟨0, rfl, Nat.zero_le _, rfl, Below.refl _ _⟩
    case round =>
      obtain ⟨i, rfl, hi, hgm, HBi⟩ := hrel
      have HG1 : Hid _ := hgm
      clear hgm
      have a0 := Cel.step CA.out HBi.out 0 _ rfl
      by_cases hit : i < la
      · go_wp2_with (fail)
        clear a0
        go_loopg [12] lb (fun gm s wr => ∃ k : Nat, s = .int .i64 (k : Int) ∧ k ≤ lb ∧ gm = lb - k ∧ Hid (Below wc.heap.size wc wr))
        case atStart => exact ⟨0, rfl, Nat.zero_le _, rfl, HBi⟩
        case round =>
          clear HBi
          obtain ⟨k, rfl, hk, hgm, HBk⟩ := hrel
          have HG2 : Hid _ := hgm
          clear hgm
          have b0 := Cel.step CB.out HBk.out 0 _ rfl
          by_cases hkt : k < lb
          · have a0 := Cel.step CA.out HBk.out 0 _ rfl
            obtain ⟨oA, cA, eA, _, _, hcA⟩ := HAC.out
            obtain ⟨oB, cB, eB, _, _, hcB⟩ := HBC.out
            simp only [Value.slice.injEq] at eA eB
            obtain ⟨rfl, _, rfl⟩ := eA
            obtain ⟨rfl, _, rfl⟩ := eB
            obtain ⟨ga, oa, rfl, x0, x1, x2⟩ := hcA i (by omega)
            obtain ⟨gb, ob, rfl, y0, y1, y2⟩ := hcB k (by omega)
            have hx9 := b_step HB.out HBk.out
            have x0 := c_after hx9 x0
            have x1 := c_after hx9 x1
            have x2 := c_after hx9 x2
            have y0 := c_after hx9 y0
            have y1 := c_after hx9 y1
            have y2 := c_after hx9 y2
            have hp := HPA.out _ (pt_mem (show i < A.length by omega))
            have hq := HPB.out _ (pt_mem (show k < B.length by omega))
            have hle := HS.out _ (pt_mem (show i < A.length by omega)) _ (pt_mem (show k < B.length by omega))
            have L3 : Hid _ := fun w' => nminus_any (pt B k) (pt A i) w' (inB_mono hq (by decide)) (inB_mono hp (by decide))
            have hsub : ((pt B k).sub (pt A i)).inB 536870912 = true := by
              have h1 := (Pt.inB_iff _ _).1 hp
              have h2 := (Pt.inB_iff _ _).1 hq
              rw [Pt.inB_iff]
              unfold Pt.sub
              dsimp only
              omega
            have L4 : Hid _ := fun w' => nrdot_any n ((pt B k).sub (pt A i)) w' HN.out hsub
            have hiz : (i : Int) < (la : Int) := by omega
            have hkz : (k : Int) < (lb : Int) := by omega
            have hlt : ¬ n.dot ((pt B k).sub (pt A i)) < gz := by omega
            clear hcA hcB hp hq hle hsub hx9
            generalize pt A i = p at *
            generalize pt B k = q at *
            unfold Pt.v at L3 L4
            go_upto_region 14 with fail
            refine RV.region_by (fun j v w => match j with | 0 => v = .pointer (some ⟨bb, 0, none⟩) | 1 => v = .slice (some ⟨gb, ob, none⟩) lb bc1 | 2 => v = .int .i64 (k : Int) | 3 => v = .pointer (some ⟨gb, ob + k * 3, none⟩) | 4 => v = .agg #[.int .i64 q.x, .int .i64 q.y, .int .i64 q.z] | 5 => v = .pointer (some ⟨ab, 0, none⟩) | 6 => v = .slice (some ⟨ga, oa, none⟩) la ac1 | 7 => v = .int .i64 (i : Int) | 8 => v = .pointer (some ⟨ga, oa + i * 3, none⟩) | 9 => v = .agg #[.int .i64 p.x, .int .i64 p.y, .int .i64 p.z] | 10 => v = .agg #[.int .i64 (q.sub p).x, .int .i64 (q.sub p).y, .int .i64 (q.sub p).z] | 11 => True | 12 => True | _ => True) (fun γ L w => Below wr.heap.size wr w ∧ RV.Pend wr 23 11 12 #[.int .i64 (q.sub p).x, .int .i64 (q.sub p).y, .int .i64 (q.sub p).z] γ L w) (by kernel_rfl) (by kernel_rfl) (by kernel_rfl) (by kernel_rfl) ?_ ?_ ?_
            · exact ⟨(Below.refl _ wr).drew, RV.Pend.start rfl⟩
            · generalize hD : dstOf _ = D
              generalize hWA : waitsFor _ = WA
              generalize hZ : Act.mk _ _ = Z
              obtain ⟨R, hR⟩ : ∃ R : Nat → Value → World → Prop, R = (fun j v w => match j with | 0 => v = .pointer (some ⟨bb, 0, none⟩) | 1 => v = .slice (some ⟨gb, ob, none⟩) lb bc1 | 2 => v = .int .i64 (k : Int) | 3 => v = .pointer (some ⟨gb, ob + k * 3, none⟩) | 4 => v = .agg #[.int .i64 q.x, .int .i64 q.y, .int .i64 q.z] | 5 => v = .pointer (some ⟨ab, 0, none⟩) | 6 => v = .slice (some ⟨ga, oa, none⟩) la ac1 | 7 => v = .int .i64 (i : Int) | 8 => v = .pointer (some ⟨ga, oa + i * 3, none⟩) | 9 => v = .agg #[.int .i64 p.x, .int .i64 p.y, .int .i64 p.z] | 10 => v = .agg #[.int .i64 (q.sub p).x, .int .i64 (q.sub p).y, .int .i64 (q.sub p).z] | 11 => True | 12 => True | _ => True) := ⟨_, rfl⟩
              rw [← hR]
              have d0 : D 0 = some 48 := by rw [← hD]; rfl
              have d1 : D 1 = some 49 := by rw [← hD]; rfl
              have d2 : D 2 = some 50 := by rw [← hD]; rfl
              have d3 : D 3 = some 51 := by rw [← hD]; rfl
              have d4 : D 4 = some 52 := by rw [← hD]; rfl
              have d5 : D 5 = some 53 := by rw [← hD]; rfl
              have d6 : D 6 = some 54 := by rw [← hD]; rfl
              have d7 : D 7 = some 55 := by rw [← hD]; rfl
              have d8 : D 8 = some 56 := by rw [← hD]; rfl
              have d9 : D 9 = some 57 := by rw [← hD]; rfl
              have d10 : D 10 = some 58 := by rw [← hD]; rfl
              have d11 : D 11 = some 13 := by rw [← hD]; rfl
              have r0 : ∀ v w, R 0 v w = (v = .pointer (some ⟨bb, 0, none⟩)) := fun v w => by rw [hR]; rfl
              have r1 : ∀ v w, R 1 v w = (v = .slice (some ⟨gb, ob, none⟩) lb bc1) := fun v w => by rw [hR]; rfl
              have r2 : ∀ v w, R 2 v w = (v = .int .i64 (k : Int)) := fun v w => by rw [hR]; rfl
              have r3 : ∀ v w, R 3 v w = (v = .pointer (some ⟨gb, ob + k * 3, none⟩)) := fun v w => by rw [hR]; rfl
              have r4 : ∀ v w, R 4 v w = (v = .agg #[.int .i64 q.x, .int .i64 q.y, .int .i64 q.z]) := fun v w => by rw [hR]; rfl
              have r5 : ∀ v w, R 5 v w = (v = .pointer (some ⟨ab, 0, none⟩)) := fun v w => by rw [hR]; rfl
              have r6 : ∀ v w, R 6 v w = (v = .slice (some ⟨ga, oa, none⟩) la ac1) := fun v w => by rw [hR]; rfl
              have r7 : ∀ v w, R 7 v w = (v = .int .i64 (i : Int)) := fun v w => by rw [hR]; rfl
              have r8 : ∀ v w, R 8 v w = (v = .pointer (some ⟨ga, oa + i * 3, none⟩)) := fun v w => by rw [hR]; rfl
              have r9 : ∀ v w, R 9 v w = (v = .agg #[.int .i64 p.x, .int .i64 p.y, .int .i64 p.z]) := fun v w => by rw [hR]; rfl
              have r10 : ∀ v w, R 10 v w = (v = .agg #[.int .i64 (q.sub p).x, .int .i64 (q.sub p).y, .int .i64 (q.sub p).z]) := fun v w => by rw [hR]; rfl
              have r11 : ∀ v w, R 11 v w = (True) := fun v w => by rw [hR]; rfl
              have r12 : ∀ v w, R 12 v w = (True) := fun v w => by rw [hR]; rfl
              have E3 : ∀ (γ : Nat → Value) (L : Nat → Bool) (a : Act) (w : World), RV.Held D WA R (fun γ L w => Below wr.heap.size wr w ∧ RV.Pend wr 23 11 12 #[.int .i64 (q.sub p).x, .int .i64 (q.sub p).y, .int .i64 (q.sub p).z] γ L w) Z γ L a w → a.tmps[3]? = some (.pointer (some ⟨ab, 0, none⟩)) := fun γ L a w hH => (hH.rest 3 (by rw [← hD]; exact RV.dst_free (by kernel_rfl))).trans (by rw [← hZ]; rfl)
              have E4 : ∀ (γ : Nat → Value) (L : Nat → Bool) (a : Act) (w : World), RV.Held D WA R (fun γ L w => Below wr.heap.size wr w ∧ RV.Pend wr 23 11 12 #[.int .i64 (q.sub p).x, .int .i64 (q.sub p).y, .int .i64 (q.sub p).z] γ L w) Z γ L a w → a.tmps[4]? = some (.pointer (some ⟨bb, 0, none⟩)) := fun γ L a w hH => (hH.rest 4 (by rw [← hD]; exact RV.dst_free (by kernel_rfl))).trans (by rw [← hZ]; rfl)
              have E11 : ∀ (γ : Nat → Value) (L : Nat → Bool) (a : Act) (w : World), RV.Held D WA R (fun γ L w => Below wr.heap.size wr w ∧ RV.Pend wr 23 11 12 #[.int .i64 (q.sub p).x, .int .i64 (q.sub p).y, .int .i64 (q.sub p).z] γ L w) Z γ L a w → a.tmps[11]? = some (.int .i64 (i : Int)) := fun γ L a w hH => (hH.rest 11 (by rw [← hD]; exact RV.dst_free (by kernel_rfl))).trans (by rw [← hZ]; rfl)
              have E12 : ∀ (γ : Nat → Value) (L : Nat → Bool) (a : Act) (w : World), RV.Held D WA R (fun γ L w => Below wr.heap.size wr w ∧ RV.Pend wr 23 11 12 #[.int .i64 (q.sub p).x, .int .i64 (q.sub p).y, .int .i64 (q.sub p).z] γ L w) Z γ L a w → a.tmps[12]? = some (.int .i64 (k : Int)) := fun γ L a w hH => (hH.rest 12 (by rw [← hD]; exact RV.dst_free (by kernel_rfl))).trans (by rw [← hZ]; rfl)
              have K : ∀ j v w w', R j v w → R j v w' := by rw [hR]; intro j v w w' h; exact h
              have A_12_11 : WA 12 11 := by rw [← hWA]; exact ⟨_, rfl, ⟨11, .data⟩, by simp, rfl, rfl⟩
              clear hD hWA hZ hR
              refine RV.AllDo.cons 0 (RV.does_pure (fun γ v L w hl h => ⟨h.1, h.2.other v (by decide) (by decide)⟩) (fun γ L a w hH hl hA => by have e0 := E4 γ L a w hH; exact ⟨.pointer (some ⟨bb, 0, none⟩), by simp [execOp, go_sem, e0], (r0 _ _).mpr rfl⟩)) ?_
              refine RV.AllDo.cons 1 (RV.does_pure (fun γ v L w hl h => ⟨h.1, h.2.other v (by decide) (by decide)⟩) (fun γ L a w hH hl hA => by have l0 : L 0 = true := hA ⟨0, .data⟩ (by simp) rfl; have e0 := hH.slot 0 48 d0 l0; have g0 := hH.holds 0 l0; rw [r0] at g0; rw [g0] at e0; have v0 := c_after hH.glob.1 b0; exact ⟨.slice (some ⟨gb, ob, none⟩) lb bc1, by simp [execOp, go_sem, e0, v0], (r1 _ _).mpr rfl⟩)) ?_
              refine RV.AllDo.cons 2 (RV.does_pure (fun γ v L w hl h => ⟨h.1, h.2.other v (by decide) (by decide)⟩) (fun γ L a w hH hl hA => by have e0 := E12 γ L a w hH; exact ⟨.int .i64 (k : Int), by simp [execOp, go_sem, e0], (r2 _ _).mpr rfl⟩)) ?_
              refine RV.AllDo.cons 3 (RV.does_pure (fun γ v L w hl h => ⟨h.1, h.2.other v (by decide) (by decide)⟩) (fun γ L a w hH hl hA => by have l0 : L 1 = true := hA ⟨1, .data⟩ (by simp) rfl; have e0 := hH.slot 1 49 d1 l0; have g0 := hH.holds 1 l0; rw [r1] at g0; rw [g0] at e0; have l1 : L 2 = true := hA ⟨2, .data⟩ (by simp) rfl; have e1 := hH.slot 2 50 d2 l1; have g1 := hH.holds 2 l1; rw [r2] at g1; rw [g1] at e1; exact ⟨.pointer (some ⟨gb, ob + k * 3, none⟩), by simp [execOp, go_sem, e0, e1, hkz], (r3 _ _).mpr rfl⟩)) ?_
              refine RV.AllDo.cons 4 (RV.does_pure (fun γ v L w hl h => ⟨h.1, h.2.other v (by decide) (by decide)⟩) (fun γ L a w hH hl hA => by have l0 : L 3 = true := hA ⟨3, .data⟩ (by simp) rfl; have e0 := hH.slot 3 51 d3 l0; have g0 := hH.holds 3 l0; rw [r3] at g0; rw [g0] at e0; have v0 := c_after hH.glob.1 y0; have v1 := c_after hH.glob.1 y1; have v2 := c_after hH.glob.1 y2; exact ⟨.agg #[.int .i64 q.x, .int .i64 q.y, .int .i64 q.z], by simp [execOp, go_sem, e0, v0, v1, v2], (r4 _ _).mpr rfl⟩)) ?_
              refine RV.AllDo.cons 5 (RV.does_pure (fun γ v L w hl h => ⟨h.1, h.2.other v (by decide) (by decide)⟩) (fun γ L a w hH hl hA => by have e0 := E3 γ L a w hH; exact ⟨.pointer (some ⟨ab, 0, none⟩), by simp [execOp, go_sem, e0], (r5 _ _).mpr rfl⟩)) ?_
              refine RV.AllDo.cons 6 (RV.does_pure (fun γ v L w hl h => ⟨h.1, h.2.other v (by decide) (by decide)⟩) (fun γ L a w hH hl hA => by have l0 : L 5 = true := hA ⟨5, .data⟩ (by simp) rfl; have e0 := hH.slot 5 53 d5 l0; have g0 := hH.holds 5 l0; rw [r5] at g0; rw [g0] at e0; have v0 := c_after hH.glob.1 a0; exact ⟨.slice (some ⟨ga, oa, none⟩) la ac1, by simp [execOp, go_sem, e0, v0], (r6 _ _).mpr rfl⟩)) ?_
              refine RV.AllDo.cons 7 (RV.does_pure (fun γ v L w hl h => ⟨h.1, h.2.other v (by decide) (by decide)⟩) (fun γ L a w hH hl hA => by have e0 := E11 γ L a w hH; exact ⟨.int .i64 (i : Int), by simp [execOp, go_sem, e0], (r7 _ _).mpr rfl⟩)) ?_
              refine RV.AllDo.cons 8 (RV.does_pure (fun γ v L w hl h => ⟨h.1, h.2.other v (by decide) (by decide)⟩) (fun γ L a w hH hl hA => by have l0 : L 6 = true := hA ⟨6, .data⟩ (by simp) rfl; have e0 := hH.slot 6 54 d6 l0; have g0 := hH.holds 6 l0; rw [r6] at g0; rw [g0] at e0; have l1 : L 7 = true := hA ⟨7, .data⟩ (by simp) rfl; have e1 := hH.slot 7 55 d7 l1; have g1 := hH.holds 7 l1; rw [r7] at g1; rw [g1] at e1; exact ⟨.pointer (some ⟨ga, oa + i * 3, none⟩), by simp [execOp, go_sem, e0, e1, hiz], (r8 _ _).mpr rfl⟩)) ?_
              refine RV.AllDo.cons 9 (RV.does_pure (fun γ v L w hl h => ⟨h.1, h.2.other v (by decide) (by decide)⟩) (fun γ L a w hH hl hA => by have l0 : L 8 = true := hA ⟨8, .data⟩ (by simp) rfl; have e0 := hH.slot 8 56 d8 l0; have g0 := hH.holds 8 l0; rw [r8] at g0; rw [g0] at e0; have v0 := c_after hH.glob.1 x0; have v1 := c_after hH.glob.1 x1; have v2 := c_after hH.glob.1 x2; exact ⟨.agg #[.int .i64 p.x, .int .i64 p.y, .int .i64 p.z], by simp [execOp, go_sem, e0, v0, v1, v2], (r9 _ _).mpr rfl⟩)) ?_
              refine RV.AllDo.cons 10 (RV.does_call (fun γ L a w hH hl hA => by have l0 : L 4 = true := hA ⟨4, .data⟩ (by simp) rfl; have e0 := hH.slot 4 52 d4 l0; have g0 := hH.holds 4 l0; rw [r4] at g0; rw [g0] at e0; have l1 : L 9 = true := hA ⟨9, .data⟩ (by simp) rfl; have e1 := hH.slot 9 57 d9 l1; have g1 := hH.holds 9 l1; rw [r9] at g1; rw [g1] at e1; exact ⟨21, #[.agg #[.int .i64 q.x, .int .i64 q.y, .int .i64 q.z], .agg #[.int .i64 p.x, .int .i64 p.y, .int .i64 p.z]], by simp [go_sem, e0, e1], Calls.mono (L3.out w) (by rintro e w2 ⟨rfl, hb⟩; exact ⟨_, rfl, (r10 _ _).mpr rfl, fun j v _ h => K j v _ _ h, hH.glob.1.trans (hb.mono hH.glob.1.size), (hH.glob.2.below hb).other _ (by decide) (by decide)⟩)⟩)) ?_
              refine RV.AllDo.cons 11 (RV.does_step (fun γ L a w hH hl hA => by have h10 : L 12 = false := RV.not_yet hH A_12_11 hl; exact ⟨.pointer (some ⟨w.heap.size, 0, none⟩), w.alloc (.cells #[.int .i64 0, .int .i64 0, .int .i64 0] 23), by simp [execOp, go_sem], (r11 _ _).mpr trivial, fun j v _ h => K j v _ _ h, hH.glob.1.alloc hH.glob.1.size _, RV.Pend.made _ rfl hH.glob.1.size h10 (by decide)⟩)) ?_
              refine RV.AllDo.cons 12 (RV.does_store (fun γ L a w hH hl hA => by have l0 : L 11 = true := hA ⟨11, .data⟩ (by simp) rfl; have e0 := hH.slot 11 13 d11 l0; have g0 := hH.holds 11 l0; rw [r11] at g0; have l1 : L 10 = true := hA ⟨10, .data⟩ (by simp) rfl; have e1 := hH.slot 10 58 d10 l1; have g1 := hH.holds 10 l1; rw [r10] at g1; rw [g1] at e1; obtain ⟨b, cs, hb1, hb2, hb3, hb4, _⟩ := hH.glob.2 l0; rw [hb1] at e0; obtain ⟨u0, u1, u2, rfl⟩ := arr3 hb4; have z09 : w.cell? ⟨b, 0, none⟩ = some u0 := (by simp [World.cell?, hb3]); have z19 : w.cell? ⟨b, 1, none⟩ = some u1 := (by simp [World.cell?, hb3]); have z29 : w.cell? ⟨b, 2, none⟩ = some u2 := (by simp [World.cell?, hb3]); have zf : ∀ o, w.frozen? ⟨b, o, none⟩ = false := fun o => (by simp [World.frozen?, hb3]); exact ⟨(((w.setCell ⟨b, 0, none⟩ (.int .i64 (q.sub p).x)).setCell ⟨b, 1, none⟩ (.int .i64 (q.sub p).y)).setCell ⟨b, 2, none⟩ (.int .i64 (q.sub p).z)), by simp [execOp, go_sem, e0, e1, z09, z19, z29, zf], (r12 _ _).mpr trivial, fun j v _ h => K j v _ _ h, ((hH.glob.1.setCell hb2 _).setCell hb2 _).setCell hb2 _, RV.Pend.filled hb1 hb2 (by have q0 := Go.heap_setCell_same w b 0 _ _ (.int .i64 (q.sub p).x) hb3; have q1 := Go.heap_setCell_same _ b 1 _ _ (.int .i64 (q.sub p).y) q0; have q2 := Go.heap_setCell_same _ b 2 _ _ (.int .i64 (q.sub p).z) q1; simpa using q2) (by decide) _⟩)) ?_
              exact RV.AllDo.nil
            · intro γ a5 w5 L9 hL hLo hH
              have ha := RV.held_act hH hL (by kernel_rfl) (by kernel_rfl)
              obtain ⟨db, cs, hb1, hb2, hb3, _, hb5⟩ := hH.glob.2 (hL 11 (by decide))
              rw [hb5 (hL 12 (by decide))] at hb3
              have hB5 := hH.glob.1
              rw [ha]
              clear ha hH hL hLo hb5
              simp only [RV.putAll, Act.put, List.setIfInBounds_toArray, List.set_cons_zero, List.set_cons_succ, Nat.zero_add, Nat.reduceAdd]
              rw [hb1]
              obtain ⟨W5, hW5⟩ : ∃ X : World, X = w5 := ⟨_, rfl⟩
              rw [← hW5] at hB5 hb3 ⊢
              have d0 : W5.cell? ⟨db, 0, none⟩ = some (.int .i64 (q.sub p).x) := by simp [World.cell?, hb3]
              have d1 : W5.cell? ⟨db, 1, none⟩ = some (.int .i64 (q.sub p).y) := by simp [World.cell?, hb3]
              have d2 : W5.cell? ⟨db, 2, none⟩ = some (.int .i64 (q.sub p).z) := by simp [World.cell?, hb3]
              have HB5 : Hid (Below wc.heap.size wc W5) := b_step HBk.out hB5
              clear hW5 hb1 hb3 hB5 L3 x0 x1 x2 y0 y1 y2 a0 b0
              generalize q.sub p = m at *
              obtain ⟨n0, n1, n2⟩ : _ ∧ _ ∧ _ := ⟨Cel.step CX.out HB5.out 0 _ rfl, Cel.step CX.out HB5.out 1 _ rfl, Cel.step CX.out HB5.out 2 _ rfl⟩
              go_wp2_with (fail)
              refine Calls.mono (L4.out _) ?_
              rintro e W6 ⟨rfl, hb⟩
              have HB6 : Hid _ := b_step HB5.out hb
              clear hb d0 d1 d2 n0 n1 n2 L4 HB5 HBk
              generalize n.dot m = dd at *
              go_wp2_with (fail)
              go_roundg (lb - (k + 1))
              case measure => have := HG2.out; omega
              case rel => exact ⟨k + 1, by go_num, by omega, rfl, HB6⟩
          · go_wp2_with (fail)
            go_roundg (la - (i + 1))
            case measure => have := HG1.out; omega
            case rel => exact ⟨i + 1, by go_num, by omega, rfl, HBk⟩
      · go_wp2_with (fail)
        go_ret
        exact ⟨rfl, b_step HB.out HBi.out⟩
end Go.Proofs.Ytfalniafkambmaa
