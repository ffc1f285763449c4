/- A slice of numbers among a law's arguments, opened. -/
import Derived.Test.YtiicpdlaaklahaaOpenP
import Derived.Deep.Slices
import Derived.Test.YtiicpdlaaklahaaPtA
namespace Go.Proofs.Ytiicpdlaaklahaa
open Go.ChangeShapes Go.WideShapes Go.Deep Go.Joins Go.RowKit Go.Shelf
set_option linter.unusedVariables false

/-- Numbers that can be read. -/
structure Nums (W : World) (a : Option Addr) (len cap : Nat) : Prop where
  le : len ≤ cap
  cl : cap ≤ 9223372036854775807
  at_ : ∀ i, i < len → ∃ g off z, a = some ⟨g, off, none⟩ ∧ W.cell? ⟨g, off + i, none⟩ = some (.int .i64 z) ∧ (-9223372036854775808 ≤ z ∧ z ≤ 9223372036854775807)
set_option maxRecDepth 100000 in
theorem open_nums {H : Type} {enc : TypeId × Value → H} {w : World} {base : Nat} {spare : Nat → Bool} {held : Bool} {r : Reach} {b0 : Nat} {v : Value} {d : DataW H} {p : List MemPlace} (hv : Value.okWide Try.prog w r b0 46 v) (h : DataW.Trod enc Try.prog w base spare held 46 v d p) :
    ∃ (a : Option Addr) (len cap : Nat), v = .slice a len cap ∧ Nums w a len cap := by
  obtain ⟨a, len, cap, rfl⟩ := okWide_slice Try.underlying46 hv
  refine ⟨a, len, cap, rfl, ?_⟩
  obtain ⟨fuel, hf⟩ := h
  rcases open_ints Try.underlying46 Try.underlying3 (by kernel_rfl) hf with ⟨hcs, _⟩ | ⟨x, l, c, zs, hcs, _, hl, hm, hz, _, hcell, hwz⟩
  · simp [Value.cells] at hcs
    obtain ⟨rfl, rfl, rfl⟩ := hcs
    exact ⟨by omega, by omega, fun i hi => by omega⟩
  · simp [Value.cells] at hcs
    obtain ⟨rfl, rfl, rfl⟩ := hcs
    unfold maxLen at hm
    have hz' : len ≤ zs.length := by rw [hz]; split <;> omega
    refine ⟨hl, by omega, fun i hi => ?_⟩
    obtain ⟨g, off, spot⟩ := x
    have h0 := hcell 0 (by omega)
    have hs : spot = none := by simpa [Addr.add] using World.cell?_spot h0
    subst hs
    have hi' := hcell i (by omega)
    have ad : (⟨g, off, none⟩ : Addr).add i = ⟨g, off + i, none⟩ := by unfold Addr.add; split <;> simp_all
    rw [ad] at hi'
    have hw := bounds_i64 (hwz (zs.getD i 0) (by rw [List.getD_eq_getElem?_getD, List.getElem?_eq_getElem (by omega)]; exact List.getElem_mem _))
    exact ⟨g, off, _, rfl, hi', by omega⟩
theorem Nums.below {W X : World} {a : Option Addr} {len cap : Nat} (h : Nums W a len cap) (hb : Below W.heap.size W X) : Nums X a len cap :=
  ⟨h.le, h.cl, fun i hi => by
    obtain ⟨g, off, z, e, hc, hz⟩ := h.at_ i hi
    exact ⟨g, off, z, e, (hb.cell (World.block_lt_of_cell? _ _ hc)).trans hc, hz⟩⟩
end Go.Proofs.Ytiicpdlaaklahaa
