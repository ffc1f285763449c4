/- Slices of steps that came in, opened; which of n a number speaks of. -/
import Derived.Test.YtchkepakbflmhaaPoolF
import Derived.Test.YtchkepakbflmhaaRows
import Derived.Maps.AppendAt
import Derived.ProofKit
import Derived.OpenShut
import Derived.ShutString
import Derived.ChangeOld
import Derived.Deep.Grids
namespace Go.Proofs.Ytchkepakbflmhaa
open Go.ChangeShapes Go.WideShapes Go.ChangeAt Go.RowKit Go.Shelf
set_option linter.unusedVariables false

/-- What the walk is told of a slice of steps that came in. -/
theorem steps_of {H : Type} {enc : TypeId × Value → H} {W : World} {base : Nat} {spare : Nat → Bool} {held : Bool} {a : Option Addr} {len cap fuel : Nat} {x : DataW H × List MemPlace}
    (h : DataW.trod enc Try.prog W base spare held fuel 22 [.slice a len cap] = some x) : len ≤ 9223372036854775807 ∧ ∃ (sw sn sx : Nat → Int) (sb : Nat → Bool),
      (len = 0 ∨ ∃ b off, a = some ⟨b, off, none⟩ ∧ ∀ i, i < len → W.cell? ⟨b, off + i * 4, none⟩ = some (.int .i64 (sw i)) ∧ W.cell? ⟨b, off + i * 4 + 1, none⟩ = some (.int .i64 (sn i)) ∧ W.cell? ⟨b, off + i * 4 + 2, none⟩ = some (.int .i64 (sx i)) ∧ W.cell? ⟨b, off + i * 4 + 3, none⟩ = some (.bool (sb i))) ∧
      ∀ i, i < len → (-9223372036854775808 ≤ sw i ∧ sw i ≤ 9223372036854775807) ∧ (-9223372036854775808 ≤ sn i ∧ sn i ≤ 9223372036854775807) := by
  rcases Deep.open_slice Try.underlying22 h with ⟨hcs, _⟩ | ⟨y, l, c, m, n, D, Pl, hcs, _, hl, hm, hmm, _, hx⟩
  · simp at hcs
    obtain ⟨rfl, rfl, rfl⟩ := hcs
    exact ⟨by omega, fun _ => 0, fun _ => 0, fun _ => 0, fun _ => false, Or.inl rfl, fun i hi => absurd hi (by omega)⟩
  · simp at hcs
    obtain ⟨rfl, rfl, rfl⟩ := hcs
    unfold maxLen at hm
    refine ⟨by omega, ?_⟩
    have hlm : len ≤ m := by rw [hmm]; split <;> omega
    have hc4 : Try.prog.cellsOf 33 = 4 := by kernel_rfl
    have hc1 : Try.prog.cellsOf 3 = 1 := by kernel_rfl
    have hc0 : Try.prog.cellsOf 4 = 1 := by kernel_rfl
    have each : ∀ i, i < len → ∃ (p q r : Int) (t : Bool), W.cell? ((y.add (i * 4)).add 0) = some (.int .i64 p) ∧ W.cell? ((y.add (i * 4)).add 1) = some (.int .i64 q) ∧ W.cell? ((y.add (i * 4)).add 2) = some (.int .i64 r) ∧ W.cell? ((y.add (i * 4)).add 3) = some (.bool t) ∧ (Lit.int .i64 p).wf = true ∧ (Lit.int .i64 q).wf = true := by
      intro i hi
      obtain ⟨cs', hcells, ht⟩ := hx i (by omega)
      rw [hc4] at hcells
      obtain ⟨_, hlen, hcell⟩ := World.cells?_some hcells
      obtain ⟨xs, k, _, _, _, hxl, hel⟩ := DataW.trod_struct Try.underlying33 ht
      have get : ∀ (v : Value) (j : Nat), ((cs'.drop j).take 1) = [v] → cs'[j]? = some v := fun v j h => by
        have h2 : ((cs'.drop j).take 1)[0]? = some v := by rw [h]; rfl
        simpa [List.getElem?_take, List.getElem?_drop] using h2
      have some_of : ∀ j, j < 4 → ∃ z, xs[j]? = some z := fun j hj => ⟨_, List.getElem?_eq_getElem (by rw [hxl]; exact hj)⟩
      have e0 := hel 0 _ rfl
      have e1 := hel 1 _ rfl
      have e2 := hel 2 _ rfl
      have e3 := hel 3 _ rfl
      obtain ⟨z0, hz0⟩ := some_of 0 (by omega)
      obtain ⟨z1, hz1⟩ := some_of 1 (by omega)
      obtain ⟨z2, hz2⟩ := some_of 2 (by omega)
      obtain ⟨z3, hz3⟩ := some_of 3 (by omega)
      rw [hz0] at e0
      rw [hz1] at e1
      rw [hz2] at e2
      rw [hz3] at e3
      obtain ⟨p, hp, _, wp⟩ := DataW.trod_int Try.underlying3 e0
      obtain ⟨q, hq, _, wq⟩ := DataW.trod_int Try.underlying3 e1
      obtain ⟨r, hr, _, _⟩ := DataW.trod_int Try.underlying3 e2
      obtain ⟨t, ht3, _⟩ := DataW.trod_bool Try.underlying4 e3
      have hp2 : (cs'.drop 0).take (Try.prog.cellsOf 3) = [.int .i64 p] := hp
      have hq2 : (cs'.drop 1).take (Try.prog.cellsOf 3) = [.int .i64 q] := hq
      have hr2 : (cs'.drop 2).take (Try.prog.cellsOf 3) = [.int .i64 r] := hr
      have ht4 : (cs'.drop 3).take (Try.prog.cellsOf 4) = [.bool t] := ht3
      rw [hc1] at hp2 hq2 hr2
      rw [hc0] at ht4
      exact ⟨p, q, r, t, (hcell 0 (by omega)).trans (get _ 0 hp2), (hcell 1 (by omega)).trans (get _ 1 hq2), (hcell 2 (by omega)).trans (get _ 2 hr2), (hcell 3 (by omega)).trans (get _ 3 ht4), wp, wq⟩
    have ch : ∃ (sw sn sx : Nat → Int) (sb : Nat → Bool), ∀ i, i < len → W.cell? ((y.add (i * 4)).add 0) = some (.int .i64 (sw i)) ∧ W.cell? ((y.add (i * 4)).add 1) = some (.int .i64 (sn i)) ∧ W.cell? ((y.add (i * 4)).add 2) = some (.int .i64 (sx i)) ∧ W.cell? ((y.add (i * 4)).add 3) = some (.bool (sb i)) ∧ (Lit.int .i64 (sw i)).wf = true ∧ (Lit.int .i64 (sn i)).wf = true := by
      refine ⟨fun i => if h : i < len then (each i h).choose else 0, fun i => if h : i < len then (each i h).choose_spec.choose else 0, fun i => if h : i < len then (each i h).choose_spec.choose_spec.choose else 0, fun i => if h : i < len then (each i h).choose_spec.choose_spec.choose_spec.choose else false, fun i hi => ?_⟩
      simp only [dif_pos hi]
      exact (each i hi).choose_spec.choose_spec.choose_spec.choose_spec
    obtain ⟨sw, sn, sx, sb, hall⟩ := ch
    refine ⟨sw, sn, sx, sb, ?_, fun i hi => ⟨?_, ?_⟩⟩
    · by_cases h0 : len = 0
      · exact Or.inl h0
      · right
        obtain ⟨b, off, spot⟩ := y
        have c0 := (hall 0 (by omega)).1
        have hs : spot = none := by simpa [Addr.add] using World.cell?_spot c0
        subst hs
        have ad : ∀ i j, ((⟨b, off, none⟩ : Addr).add (i * 4)).add j = ⟨b, off + i * 4 + j, none⟩ := fun i j => by
          unfold Addr.add
          split <;> split <;> simp_all
        refine ⟨b, off, rfl, fun i hi => ?_⟩
        obtain ⟨h0, h1, h2, h3, _⟩ := hall i hi
        rw [ad] at h0 h1 h2 h3
        exact ⟨h0, h1, h2, h3⟩
    · have := bounds_i64 (hall i hi).2.2.2.2.1
      omega
    · have := bounds_i64 (hall i hi).2.2.2.2.2
      omega


end Go.Proofs.Ytchkepakbflmhaa
