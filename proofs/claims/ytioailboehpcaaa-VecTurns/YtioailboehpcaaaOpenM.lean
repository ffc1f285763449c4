/- A matrix among a law's arguments, opened. -/
import Derived.Test.YtioailboehpcaaaOpenV
import Derived.Test.YtioailboehpcaaaReg2
import Derived.ShutString
import Derived.ChangeOld
namespace Go.Proofs.Ytioailboehpcaaa
open Go.ChangeShapes Go.WideShapes Go.Deep Go.Joins

theorem laidOut : laidOutB Try.prog = true := by kernel_rfl

theorem agg_of {v : Value} {c0 c1 c2 c3 c4 c5 c6 c7 c8 : Value} (h : v.cells.toList = [c0, c1, c2, c3, c4, c5, c6, c7, c8]) : v = .agg #[c0, c1, c2, c3, c4, c5, c6, c7, c8] := by
  cases v <;> simp [Value.cells] at h
  rename_i cs
  obtain ⟨l⟩ := cs
  simp at h
  rw [h]

section
variable {H : Type} {enc : TypeId × Value → H} {w : World} {base : Nat} {spare : Nat → Bool} {held : Bool}

theorem vec_cells {n : Nat} {c0 c1 c2 : Value} {y : DataW H × List MemPlace} (h : DataW.trod enc Try.prog w base spare held n 23 [c0, c1, c2] = some y) :
    ∃ x y' z : Int, c0 = .int .i64 x ∧ c1 = .int .i64 y' ∧ c2 = .int .i64 z ∧ y.2 = [] ∧ (Lit.int .i64 x).wf = true ∧ (Lit.int .i64 y').wf = true ∧ (Lit.int .i64 z).wf = true := by
  obtain ⟨y0, y1, y2, m, hx, _, t0, t1, t2⟩ := trod_struct3 Try.underlying23 h
  obtain ⟨x, hx0, rfl, w0⟩ := DataW.trod_int Try.underlying3 t0
  obtain ⟨y', hx1, rfl, w1⟩ := DataW.trod_int Try.underlying3 t1
  obtain ⟨z, hx2, rfl, w2⟩ := DataW.trod_int Try.underlying3 t2
  have hc : Try.prog.cellsOf 3 = 1 := by kernel_rfl
  simp [hc] at hx0 hx1 hx2
  refine ⟨x, y', z, hx0, hx1, hx2, ?_, w0, w1, w2⟩
  rw [hx]; rfl

set_option maxRecDepth 100000 in
theorem open_mat {v : Value} {d : DataW H} {p : List MemPlace} (h : DataW.Trod enc Try.prog w base spare held 44 v d p) :
    ∃ m0 m1 m2 m3 m4 m5 m6 m7 m8 : Int, v = .agg #[.int .i64 m0, .int .i64 m1, .int .i64 m2, .int .i64 m3, .int .i64 m4, .int .i64 m5, .int .i64 m6, .int .i64 m7, .int .i64 m8] ∧ p = [] ∧
      (Lit.int .i64 m0).wf = true ∧ (Lit.int .i64 m1).wf = true ∧ (Lit.int .i64 m2).wf = true ∧ (Lit.int .i64 m3).wf = true ∧ (Lit.int .i64 m4).wf = true ∧ (Lit.int .i64 m5).wf = true ∧ (Lit.int .i64 m6).wf = true ∧ (Lit.int .i64 m7).wf = true ∧ (Lit.int .i64 m8).wf = true := by
  obtain ⟨fuel, hf⟩ := h
  obtain ⟨xs, k, _, hx, hl, hxl, hel⟩ := DataW.trod_array Try.underlying44 hf
  have hC : Try.prog.cellsOf 44 = 9 := by kernel_rfl
  have hc : Try.prog.cellsOf 23 = 3 := by kernel_rfl
  rw [hC] at hl
  obtain ⟨c0, c1, c2, c3, c4, c5, c6, c7, c8, hcs⟩ := list9 hl
  obtain ⟨y0, y1, y2, rfl⟩ := list3 hxl
  rw [hcs] at hel
  have e0 := hel 0 (by omega)
  have e1 := hel 1 (by omega)
  have e2 := hel 2 (by omega)
  simp [hc] at e0 e1 e2
  obtain ⟨m0, m1, m2, rfl, rfl, rfl, p0, w0, w1, w2⟩ := vec_cells e0
  obtain ⟨m3, m4, m5, rfl, rfl, rfl, p1, w3, w4, w5⟩ := vec_cells e1
  obtain ⟨m6, m7, m8, rfl, rfl, rfl, p2, w6, w7, w8⟩ := vec_cells e2
  simp only [Prod.mk.injEq] at hx
  refine ⟨m0, m1, m2, m3, m4, m5, m6, m7, m8, agg_of hcs, ?_, w0, w1, w2, w3, w4, w5, w6, w7, w8⟩
  rw [hx.2]
  simp [p0, p1, p2]
end
end Go.Proofs.Ytioailboehpcaaa
