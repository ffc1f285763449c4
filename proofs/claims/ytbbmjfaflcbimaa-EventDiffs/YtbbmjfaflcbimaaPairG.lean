/- Without of a set; going through a set; two lists held against one another. -/
import Derived.Test.YtbbmjfaflcbimaaPairF
import Derived.Test.YtbbmjfaflcbimaaRangeK
namespace Go.Proofs.Ytbbmjfaflcbimaa
open Go.RowKit Go.Shelf
set_option linter.unusedVariables false

/-- Two lists, held against one another. -/
structure Lies (W : World) (v : Value) (L : List Pr) : Prop where
  form : ∃ o cap, v = .slice o L.length cap ∧ L.length ≤ cap ∧ cap ≤ 9223372036854775807 ∧ ∀ i, i < L.length → ∃ g off, o = some ⟨g, off, none⟩ ∧ W.cell? ⟨g, off + i * 2, none⟩ = some (.int .i64 (pt L i).a) ∧ W.cell? ⟨g, off + i * 2 + 1, none⟩ = some (.int .i64 (pt L i).b)
theorem Lies.of_row {W : World} {base : Nat} {v : Value} {L : List Pr} (h : W.ownsRow base 60 2 v L.length (flat L)) : Lies W v L := by
  refine ⟨?_⟩
  rcases h.2 with ⟨rfl, h0⟩ | ⟨g, cap, cur, rfl, hb, hg, h1, h2, h3, h4⟩
  · exact ⟨none, 0, by rw [h0], by omega, by omega, fun i hi => by omega⟩
  · refine ⟨_, cap, rfl, h1, by unfold maxLen at h2; omega, fun i hi => ⟨g, 0, rfl, ?_, ?_⟩⟩
    · rw [Nat.zero_add]; exact (h.cellAt (i * 2) (by omega)).trans (flat_at0 L i hi)
    · rw [Nat.zero_add]; exact (h.cellAt (i * 2 + 1) (by omega)).trans (flat_at1 L i hi)
theorem Lies.below {w W : World} {v : Value} {L : List Pr} (h : Lies w v L) (hb : Below w.heap.size w W) : Lies W v L := by
  obtain ⟨o, cap, e, h1, h2, h3⟩ := h.form
  refine ⟨o, cap, e, h1, h2, fun i hi => ?_⟩
  obtain ⟨g, off, e, a, b⟩ := h3 i hi
  exact ⟨g, off, e, (hb.cell (World.block_lt_of_cell? _ _ a)).trans a, (hb.cell (World.block_lt_of_cell? _ _ b)).trans b⟩

theorem list_same {L M : List Pr} (hl : L.length = M.length) (h : ∀ i, i < L.length → pt L i = pt M i) : L = M := by
  apply List.ext_getElem hl
  intro i h1 h2
  have := h i h1
  unfold pt at this
  rw [List.getElem?_eq_getElem h1, List.getElem?_eq_getElem h2] at this
  exact this

end Go.Proofs.Ytbbmjfaflcbimaa
