/- Points among a law's arguments, opened and shut. -/
import Derived.Test.YtccdgpijjgeedaaProg
import Derived.Lib.SmallJoins
import Derived.OpenShut
namespace Go.Proofs.Ytccdgpijjgeedaa
open Go.ChangeShapes Go.WideShapes Go.Deep Go.Joins

section
variable {H : Type} {enc : TypeId × Value → H} {w : World} {base : Nat} {spare : Nat → Bool} {held : Bool}

theorem lit_of {n : Nat} {c : Value} {y : DataW H × List MemPlace} (h : DataW.trod enc Try.prog w base spare held n 3 [c] = some y) : ∃ x : Int, c = .int .i64 x ∧ y = (.lit (.int .i64 x), []) ∧ (Lit.int .i64 x).wf = true := by
  obtain ⟨x, h1, h2, h3⟩ := DataW.trod_int Try.underlying3 h
  simp at h1
  exact ⟨x, h1, h2, h3⟩
theorem of_lit {x : Int} (h : (Lit.int .i64 x).wf = true) : ∃ n, DataW.trod enc Try.prog w base spare held n 3 [.int .i64 x] = some (.lit (.int .i64 x), []) :=
  field_of_Trod (shut_int Try.underlying3 h) rfl
set_option maxRecDepth 100000 in
theorem open_point {r : Reach} {b0 : Nat} {v : Value} {d : DataW H} {p : List MemPlace} (hv : Value.okWide Try.prog w r b0 26 v) (h : DataW.Trod enc Try.prog w base spare held 26 v d p) :
    ∃ x y z : Int, v = .agg #[.int .i64 x, .int .i64 y, .int .i64 z] ∧ d = .agg [.lit (.int .i64 x), .lit (.int .i64 y), .lit (.int .i64 z)] ∧ p = [] ∧ (Lit.int .i64 x).wf = true ∧ (Lit.int .i64 y).wf = true ∧ (Lit.int .i64 z).wf = true := by
  obtain ⟨c0, c1, c2, y0, y1, y2, n, rfl, rfl, rfl, t0, t1, t2⟩ := open_agg3 Try.underlying26 (by kernel_rfl) (by kernel_rfl) hv h
  obtain ⟨x, rfl, rfl, hx⟩ := lit_of t0
  obtain ⟨y, rfl, rfl, hy⟩ := lit_of t1
  obtain ⟨z, rfl, rfl, hz⟩ := lit_of t2
  exact ⟨x, y, z, rfl, rfl, rfl, hx, hy, hz⟩
set_option maxRecDepth 100000 in
theorem shut_point {x y z : Int} (hx : (Lit.int .i64 x).wf = true) (hy : (Lit.int .i64 y).wf = true) (hz : (Lit.int .i64 z).wf = true) :
    DataW.Trod enc Try.prog w base spare held 26 (.agg #[.int .i64 x, .int .i64 y, .int .i64 z]) (.agg [.lit (.int .i64 x), .lit (.int .i64 y), .lit (.int .i64 z)]) [] :=
  shut_agg3 (y0 := (.lit (.int .i64 x), [])) (y1 := (.lit (.int .i64 y), [])) (y2 := (.lit (.int .i64 z), [])) Try.underlying26 (by kernel_rfl) (by kernel_rfl) (of_lit hx) (of_lit hy) (of_lit hz)
end
end Go.Proofs.Ytccdgpijjgeedaa
