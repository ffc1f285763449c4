/- Boxes among a law's arguments, opened. -/
import Derived.Test.YtocdompopadanaaOpenP
import Derived.Deep.Slices
namespace Go.Proofs.Ytocdompopadanaa
open Go.ChangeShapes Go.WideShapes Go.Deep Go.Joins
set_option linter.unusedVariables false

theorem arr6b {cs : Array Value} (h : cs.size = 6) : ∃ a b c d e f, cs = #[a, b, c, d, e, f] := by
  obtain ⟨l⟩ := cs
  match l, h with
  | [a, b, c, d, e, f], _ => exact ⟨a, b, c, d, e, f, rfl⟩
section
variable {H : Type} {enc : TypeId × Value → H} {w : World} {base : Nat} {spare : Nat → Bool} {held : Bool}
theorem point_of {n : Nat} {u0 u1 u2 : Value} {z : DataW H × List MemPlace} (h : DataW.trod enc Try.prog w base spare held n 23 [u0, u1, u2] = some z) : ∃ x y z : Int, u0 = .int .i64 x ∧ u1 = .int .i64 y ∧ u2 = .int .i64 z := by
  have hc1 : Try.prog.cellsOf 3 = 1 := by kernel_rfl
  obtain ⟨ys, m, _, _, _, hyl, hey⟩ := DataW.trod_struct Try.underlying23 h
  have some_y : ∀ j, j < 3 → ∃ z, ys[j]? = some z := fun j hj => ⟨_, List.getElem?_eq_getElem (by rw [hyl]; exact hj)⟩
  obtain ⟨y0, hy0⟩ := some_y 0 (by omega)
  obtain ⟨y1, hy1⟩ := some_y 1 (by omega)
  obtain ⟨y2, hy2⟩ := some_y 2 (by omega)
  have g0 := hey 0 _ rfl
  have g1 := hey 1 _ rfl
  have g2 := hey 2 _ rfl
  rw [hy0] at g0
  rw [hy1] at g1
  rw [hy2] at g2
  have p0 : DataW.trod enc Try.prog w base spare held m 3 [u0] = some y0 := by have this : DataW.trod enc Try.prog w base spare held m 3 (([u0, u1, u2].drop 0).take (Try.prog.cellsOf 3)) = some y0 := g0; rw [hc1] at this; exact this
  have p1 : DataW.trod enc Try.prog w base spare held m 3 [u1] = some y1 := by have this : DataW.trod enc Try.prog w base spare held m 3 (([u0, u1, u2].drop 1).take (Try.prog.cellsOf 3)) = some y1 := g1; rw [hc1] at this; exact this
  have p2 : DataW.trod enc Try.prog w base spare held m 3 [u2] = some y2 := by have this : DataW.trod enc Try.prog w base spare held m 3 (([u0, u1, u2].drop 2).take (Try.prog.cellsOf 3)) = some y2 := g2; rw [hc1] at this; exact this
  obtain ⟨x, rfl, _, _⟩ := lit_of p0
  obtain ⟨y, rfl, _, _⟩ := lit_of p1
  obtain ⟨z, rfl, _, _⟩ := lit_of p2
  exact ⟨x, y, z, rfl, rfl, rfl⟩
set_option maxRecDepth 100000 in
theorem open_box {r : Reach} {b0 : Nat} {v : Value} {d : DataW H} {p : List MemPlace} (hv : Value.okWide Try.prog w r b0 25 v) (h : DataW.Trod enc Try.prog w base spare held 25 v d p) :
    ∃ x y z X Y Z : Int, v = .agg #[.int .i64 x, .int .i64 y, .int .i64 z, .int .i64 X, .int .i64 Y, .int .i64 Z] := by
  obtain ⟨cs, rfl, hsz⟩ := okWide_struct Try.underlying25 hv
  have hC : Try.prog.cellsOf 25 = 6 := by kernel_rfl
  obtain ⟨u0, u1, u2, u3, u4, u5, rfl⟩ := arr6b (hsz.trans hC)
  obtain ⟨fuel, hf⟩ := h
  have hf2 : DataW.trod enc Try.prog w base spare held fuel 25 [u0, u1, u2, u3, u4, u5] = some (d, p) := hf
  obtain ⟨xs, n, _, _, _, hxl, hel⟩ := DataW.trod_struct Try.underlying25 hf2
  have hc3 : Try.prog.cellsOf 23 = 3 := by kernel_rfl
  have some_of : ∀ j, j < 2 → ∃ z, xs[j]? = some z := fun j hj => ⟨_, List.getElem?_eq_getElem (by rw [hxl]; exact hj)⟩
  obtain ⟨z0, hz0⟩ := some_of 0 (by omega)
  obtain ⟨z1, hz1⟩ := some_of 1 (by omega)
  have e0 := hel 0 _ rfl
  have e1 := hel 1 _ rfl
  rw [hz0] at e0
  rw [hz1] at e1
  have q0 : DataW.trod enc Try.prog w base spare held n 23 [u0, u1, u2] = some z0 := by have this : DataW.trod enc Try.prog w base spare held n 23 (([u0, u1, u2, u3, u4, u5].drop 0).take (Try.prog.cellsOf 23)) = some z0 := e0; rw [hc3] at this; exact this
  have q1 : DataW.trod enc Try.prog w base spare held n 23 [u3, u4, u5] = some z1 := by have this : DataW.trod enc Try.prog w base spare held n 23 (([u0, u1, u2, u3, u4, u5].drop 3).take (Try.prog.cellsOf 23)) = some z1 := e1; rw [hc3] at this; exact this
  obtain ⟨x, y, z, rfl, rfl, rfl⟩ := point_of q0
  obtain ⟨X, Y, Z, rfl, rfl, rfl⟩ := point_of q1
  exact ⟨x, y, z, X, Y, Z, rfl⟩
end
end Go.Proofs.Ytocdompopadanaa
