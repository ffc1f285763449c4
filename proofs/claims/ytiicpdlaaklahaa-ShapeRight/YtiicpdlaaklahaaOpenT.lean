/- A shape among a law's arguments, opened with its points. -/
import Derived.Test.YtiicpdlaaklahaaOpenS
namespace Go.Proofs.Ytiicpdlaaklahaa
open Go.ChangeShapes Go.WideShapes Go.Deep Go.Joins
set_option linter.unusedVariables false

theorem points_nil {H : Type} {enc : TypeId × Value → H} {W : World} {base : Nat} {spare : Nat → Bool} {held : Bool} {a : Option Addr} {len cap fuel : Nat} {x : DataW H × List MemPlace}
    (h : DataW.trod enc Try.prog W base spare held fuel 24 [.slice a len cap] = some x) : a = none → len = 0 ∧ cap = 0 := by
  rcases Deep.open_slice Try.underlying24 h with ⟨hcs, _⟩ | ⟨y, l, c, m, n, D, Pl, hcs, _⟩
  · simp at hcs
    obtain ⟨rfl, rfl, rfl⟩ := hcs
    exact fun _ => ⟨rfl, rfl⟩
  · simp at hcs
    obtain ⟨rfl, rfl, rfl⟩ := hcs
    exact fun e => by cases e
set_option maxRecDepth 100000 in
theorem open_shape2 {H : Type} {enc : TypeId × Value → H} {w : World} {base : Nat} {spare : Nat → Bool} {held : Bool} {r : Reach} {b0 : Nat} {v : Value} {d : DataW H} {p : List MemPlace} (hv : Value.okWide Try.prog w r b0 26 v) (h : DataW.Trod enc Try.prog w base spare held 26 v d p) :
    ∃ (k rr x y z : Int) (a : Option Addr) (L : List Pt) (cap : Nat), v = .agg #[.int .i64 k, .int .i64 rr, .int .i64 x, .int .i64 y, .int .i64 z, .slice a L.length cap] ∧ Lies w (.slice a L.length cap) L ∧ (a = none → L.length = 0 ∧ cap = 0) ∧ (Lit.int .i64 k).wf = true ∧ (Lit.int .i64 rr).wf = true ∧ (Lit.int .i64 x).wf = true ∧ (Lit.int .i64 y).wf = true ∧ (Lit.int .i64 z).wf = true := by
  obtain ⟨cs, rfl, hsz⟩ := okWide_struct Try.underlying26 hv
  have hC : Try.prog.cellsOf 26 = 6 := by kernel_rfl
  obtain ⟨u0, u1, u2, u3, u4, u5, rfl⟩ := arr6 (hsz.trans hC)
  obtain ⟨fuel, hf⟩ := h
  have hf2 : DataW.trod enc Try.prog w base spare held fuel 26 [u0, u1, u2, u3, u4, u5] = some (d, p) := hf
  obtain ⟨xs, n, _, _, _, hxl, hel⟩ := DataW.trod_struct Try.underlying26 hf2
  have hc1 : Try.prog.cellsOf 3 = 1 := by kernel_rfl
  have hc3 : Try.prog.cellsOf 23 = 3 := by kernel_rfl
  have hcs : Try.prog.cellsOf 24 = 1 := by kernel_rfl
  have some_of : ∀ j, j < 4 → ∃ z, xs[j]? = some z := fun j hj => ⟨_, List.getElem?_eq_getElem (by rw [hxl]; exact hj)⟩
  obtain ⟨z0, hz0⟩ := some_of 0 (by omega)
  obtain ⟨z1, hz1⟩ := some_of 1 (by omega)
  obtain ⟨z2, hz2⟩ := some_of 2 (by omega)
  obtain ⟨z3, hz3⟩ := some_of 3 (by omega)
  have e0 := hel 0 _ rfl
  have e1 := hel 1 _ rfl
  have e2 := hel 2 _ rfl
  have e3 := hel 3 _ rfl
  rw [hz0] at e0
  rw [hz1] at e1
  rw [hz2] at e2
  rw [hz3] at e3
  have q0 : DataW.trod enc Try.prog w base spare held n 3 [u0] = some z0 := by have this : DataW.trod enc Try.prog w base spare held n 3 (([u0, u1, u2, u3, u4, u5].drop 0).take (Try.prog.cellsOf 3)) = some z0 := e0; rw [hc1] at this; exact this
  have q1 : DataW.trod enc Try.prog w base spare held n 3 [u1] = some z1 := by have this : DataW.trod enc Try.prog w base spare held n 3 (([u0, u1, u2, u3, u4, u5].drop 1).take (Try.prog.cellsOf 3)) = some z1 := e1; rw [hc1] at this; exact this
  have q2 : DataW.trod enc Try.prog w base spare held n 23 [u2, u3, u4] = some z2 := by have this : DataW.trod enc Try.prog w base spare held n 23 (([u0, u1, u2, u3, u4, u5].drop 2).take (Try.prog.cellsOf 23)) = some z2 := e2; rw [hc3] at this; exact this
  have q3 : DataW.trod enc Try.prog w base spare held n 24 [u5] = some z3 := by have this : DataW.trod enc Try.prog w base spare held n 24 (([u0, u1, u2, u3, u4, u5].drop 5).take (Try.prog.cellsOf 24)) = some z3 := e3; rw [hcs] at this; exact this
  obtain ⟨k, rfl, _, wk⟩ := lit_of q0
  obtain ⟨rr, rfl, _, wr⟩ := lit_of q1
  obtain ⟨ys, m, _, _, _, hyl, hey⟩ := DataW.trod_struct Try.underlying23 q2
  have some_y : ∀ j, j < 3 → ∃ z, ys[j]? = some z := fun j hj => ⟨_, List.getElem?_eq_getElem (by rw [hyl]; exact hj)⟩
  obtain ⟨y0, hy0⟩ := some_y 0 (by omega)
  obtain ⟨y1, hy1⟩ := some_y 1 (by omega)
  obtain ⟨y2, hy2⟩ := some_y 2 (by omega)
  have g0 := hey 0 _ rfl
  have g1 := hey 1 _ rfl
  have g2 := hey 2 _ rfl
  rw [hy0] at g0
  rw [hy1] at g1
  rw [hy2] at g2
  have p0 : DataW.trod enc Try.prog w base spare held m 3 [u2] = some y0 := by have this : DataW.trod enc Try.prog w base spare held m 3 (([u2, u3, u4].drop 0).take (Try.prog.cellsOf 3)) = some y0 := g0; rw [hc1] at this; exact this
  have p1 : DataW.trod enc Try.prog w base spare held m 3 [u3] = some y1 := by have this : DataW.trod enc Try.prog w base spare held m 3 (([u2, u3, u4].drop 1).take (Try.prog.cellsOf 3)) = some y1 := g1; rw [hc1] at this; exact this
  have p2 : DataW.trod enc Try.prog w base spare held m 3 [u4] = some y2 := by have this : DataW.trod enc Try.prog w base spare held m 3 (([u2, u3, u4].drop 2).take (Try.prog.cellsOf 3)) = some y2 := g2; rw [hc1] at this; exact this
  obtain ⟨x, rfl, _, wx⟩ := lit_of p0
  obtain ⟨y, rfl, _, wy⟩ := lit_of p1
  obtain ⟨z, rfl, _, wz⟩ := lit_of p2
  have hs : ∃ a len cap, u5 = .slice a len cap := by
    rcases Deep.open_slice Try.underlying24 q3 with ⟨hcs, _⟩ | ⟨y, l, c, mm, nn, D, Pl, hcs, _⟩
    · simp at hcs; exact ⟨_, _, _, hcs⟩
    · simp at hcs; exact ⟨_, _, _, hcs⟩
  obtain ⟨a, len, cap, rfl⟩ := hs
  have hn := points_nil q3
  obtain ⟨L, rfl, hL, hF⟩ := points_of q3
  exact ⟨k, rr, x, y, z, a, L, cap, rfl, hL, hn, wk, wr, wx, wy, wz⟩
end Go.Proofs.Ytiicpdlaaklahaa
