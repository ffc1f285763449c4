/- A slice of triples of ints, opened: where the three numbers of each call lie. -/
import Derived.Test.YtppiglecnnjcmaaLaw
import Derived.Test.YtppiglecnnjcmaaRows
import Derived.ProofKit
import Derived.OpenShut
import Derived.ShutString
import Derived.ChangeOld
import Derived.Deep.Slices
namespace Go.Proofs.Ytppiglecnnjcmaa
namespace fxScripts
open Go.ChangeShapes Go.WideShapes Go.ChangeAt Go.RowKit Fx
set_option linter.unusedVariables false

theorem own : ownKnob Try.prog.godebug = none := by kernel_rfl
theorem laidOut : laidOutB Try.prog = true := by kernel_rfl

/-- Where the slice leads lie three numbers a call. -/
def Trips (w : World) (a : Option Addr) (len : Nat) : Prop :=
  len = 0 ∨ ∃ b off, ∃ f : Nat → Nat → Int, a = some ⟨b, off, none⟩ ∧ ∀ i, i < len → w.cell? ⟨b, off + i * 3, none⟩ = some (.int .i64 (f i 0)) ∧ w.cell? ⟨b, off + i * 3 + 1, none⟩ = some (.int .i64 (f i 1)) ∧ w.cell? ⟨b, off + i * 3 + 2, none⟩ = some (.int .i64 (f i 2))

theorem add_off (b off i j : Nat) : ((⟨b, off, none⟩ : Addr).add i).add j = ⟨b, off + i + j, none⟩ := by
  rw [Deep.add_add]
  unfold Addr.add
  split
  · rename_i h; congr 1; omega
  · simp [Nat.add_assoc]

theorem trips_of {H : Type} {enc : TypeId × Value → H} {W : World} {base : Nat} {spare : Nat → Bool} {held : Bool} {a : Option Addr} {len cap fuel : Nat} {x : DataW H × List MemPlace}
    (h : DataW.trod enc Try.prog W base spare held fuel 38 [.slice a len cap] = some x) : Trips W a len ∧ len ≤ 9223372036854775807 := by
  rcases Deep.open_slice Try.underlying38 h with ⟨hcs, _⟩ | ⟨y, l, c, m, n, D, Pl, hcs, _, hl, hm, hmm, _, hx⟩
  · simp at hcs
    obtain ⟨rfl, rfl, rfl⟩ := hcs
    exact ⟨Or.inl rfl, by omega⟩
  · simp at hcs
    obtain ⟨rfl, rfl, rfl⟩ := hcs
    unfold maxLen at hm
    refine ⟨?_, by omega⟩
    have hlm : len ≤ m := by rw [hmm]; split <;> omega
    have hc3 : Try.prog.cellsOf 39 = 3 := by kernel_rfl
    have hc1 : Try.prog.cellsOf 3 = 1 := by kernel_rfl
    have each : ∀ i, i < len → ∃ f : Nat → Int, ∀ j, j < 3 → W.cell? ((y.add (i * 3)).add j) = some (.int .i64 (f j)) := by
      intro i hi
      obtain ⟨cs', hcells, ht⟩ := hx i (by omega)
      rw [hc3] at hcells
      obtain ⟨_, hlen, hcell⟩ := World.cells?_some hcells
      obtain ⟨xs, k, _, _, _, hxl, hel⟩ := DataW.trod_array Try.underlying39 ht
      have one : ∀ j, j < 3 → ∃ q : Int, cs'[j]? = some (.int .i64 q) := by
        intro j hj
        have e := hel j hj
        rw [hc1, Nat.mul_one] at e
        have hs : ∃ z, xs[j]? = some z := ⟨xs[j], List.getElem?_eq_getElem (by omega)⟩
        obtain ⟨z, hz⟩ := hs
        rw [hz] at e
        obtain ⟨q, hq, _, _⟩ := DataW.trod_int Try.underlying3 e
        refine ⟨q, ?_⟩
        have : ((cs'.drop j).take 1)[0]? = some (.int .i64 q) := by rw [hq]; rfl
        simpa [List.getElem?_take, List.getElem?_drop] using this
      refine ⟨fun j => if h : j < 3 then (one j h).choose else 0, fun j hj => ?_⟩
      rw [hcell j hj]
      simp only [dif_pos hj]
      exact (one j hj).choose_spec
    by_cases h0 : len = 0
    · exact Or.inl h0
    · obtain ⟨b, off, spot⟩ := y
      obtain ⟨f0, hf0⟩ := each 0 (by omega)
      have c0 := hf0 0 (by omega)
      have hs : spot = none := by simpa [Addr.add] using World.cell?_spot c0
      subst hs
      refine Or.inr ⟨b, off, fun i => if h : i < len then (each i h).choose else fun _ => 0, rfl, fun i hi => ?_⟩
      have hj := (each i hi).choose_spec
      have j0 := hj 0 (by omega)
      have j1 := hj 1 (by omega)
      have j2 := hj 2 (by omega)
      rw [add_off] at j0 j1 j2
      simp only [dif_pos hi]
      exact ⟨j0, j1, j2⟩

end fxScripts
end Go.Proofs.Ytppiglecnnjcmaa
