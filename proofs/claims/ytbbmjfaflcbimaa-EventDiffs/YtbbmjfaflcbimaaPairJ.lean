/- Chapter 4's example; slices of pairs that came in, opened. -/
import Derived.Test.YtbbmjfaflcbimaaPairI
import Derived.Test.YtbbmjfaflcbimaaRows
import Derived.OpenShut
import Derived.ShutString
import Derived.ChangeOld
import Derived.Deep.Grids
namespace Go.Proofs.Ytbbmjfaflcbimaa
open Go.ChangeShapes Go.WideShapes Go.ChangeAt Go.RowKit Go.Shelf
set_option linter.unusedVariables false

/-- A slice of pairs that came in. -/
structure In (W : World) (a : Option Addr) (len cap : Nat) (l : Nat → Pr) : Prop where
  le : len ≤ cap
  big : cap ≤ 9223372036854775807
  nil : a = none → len = 0 ∧ cap = 0
  at_ : len = 0 ∨ ∃ b off, a = some ⟨b, off, none⟩ ∧ ∀ i, i < len → W.cell? ⟨b, off + i * 2, none⟩ = some (.int .i64 (l i).a) ∧ W.cell? ⟨b, off + i * 2 + 1, none⟩ = some (.int .i64 (l i).b)

theorem pairs_of {H : Type} {enc : TypeId × Value → H} {W : World} {base : Nat} {spare : Nat → Bool} {held : Bool} {a : Option Addr} {len cap fuel : Nat} {x : DataW H × List MemPlace}
    (h : DataW.trod enc Try.prog W base spare held fuel 50 [.slice a len cap] = some x) : ∃ l : Nat → Pr, In W a len cap l := by
  rcases Deep.open_slice Try.underlying50 h with ⟨hcs, _⟩ | ⟨y, l, c, m, n, D, Pl, hcs, _, hl, hm, hmm, _, hx⟩
  · simp at hcs
    obtain ⟨rfl, rfl, rfl⟩ := hcs
    exact ⟨fun _ => default, ⟨by omega, by omega, fun _ => ⟨rfl, rfl⟩, Or.inl rfl⟩⟩
  · simp at hcs
    obtain ⟨rfl, rfl, rfl⟩ := hcs
    unfold maxLen at hm
    have hlm : len ≤ m := by rw [hmm]; split <;> omega
    have hc2 : Try.prog.cellsOf 60 = 2 := by kernel_rfl
    have hc1 : Try.prog.cellsOf 35 = 1 := by kernel_rfl
    have each : ∀ i, i < len → ∃ (p q : Int), W.cell? ((y.add (i * 2)).add 0) = some (.int .i64 p) ∧ W.cell? ((y.add (i * 2)).add 1) = some (.int .i64 q) := by
      intro i hi
      obtain ⟨cs', hcells, ht⟩ := hx i (by omega)
      rw [hc2] at hcells
      obtain ⟨_, hlen, hcell⟩ := World.cells?_some hcells
      obtain ⟨xs, k, _, _, _, hxl, hel⟩ := DataW.trod_struct Try.underlying60 ht
      have get : ∀ (v : Value) (j : Nat), ((cs'.drop j).take 1) = [v] → cs'[j]? = some v := fun v j h => by
        have h2 : ((cs'.drop j).take 1)[0]? = some v := by rw [h]; rfl
        simpa [List.getElem?_take, List.getElem?_drop] using h2
      have some_of : ∀ j, j < 2 → ∃ z, xs[j]? = some z := fun j hj => ⟨_, List.getElem?_eq_getElem (by rw [hxl]; exact hj)⟩
      have e0 := hel 0 _ rfl
      have e1 := hel 1 _ rfl
      obtain ⟨z0, hz0⟩ := some_of 0 (by omega)
      obtain ⟨z1, hz1⟩ := some_of 1 (by omega)
      rw [hz0] at e0
      rw [hz1] at e1
      obtain ⟨p, hp, _, wp⟩ := DataW.trod_int Try.underlying35 e0
      obtain ⟨q, hq, _, wq⟩ := DataW.trod_int Try.underlying35 e1
      have hp2 : (cs'.drop 0).take (Try.prog.cellsOf 35) = [.int .i64 p] := hp
      have hq2 : (cs'.drop 1).take (Try.prog.cellsOf 35) = [.int .i64 q] := hq
      rw [hc1] at hp2 hq2
      exact ⟨p, q, (hcell 0 (by omega)).trans (get _ 0 hp2), (hcell 1 (by omega)).trans (get _ 1 hq2)⟩
    have ch : ∃ (l : Nat → Pr), ∀ i, i < len → W.cell? ((y.add (i * 2)).add 0) = some (.int .i64 (l i).a) ∧ W.cell? ((y.add (i * 2)).add 1) = some (.int .i64 (l i).b) := by
      refine ⟨fun i => if h : i < len then ⟨(each i h).choose, (each i h).choose_spec.choose⟩ else default, fun i hi => ?_⟩
      simp only [dif_pos hi]
      exact (each i hi).choose_spec.choose_spec
    obtain ⟨l, hall⟩ := ch
    refine ⟨l, ⟨hl, by omega, (fun e => by cases e), ?_⟩⟩
    by_cases h0 : len = 0
    · exact Or.inl h0
    · right
      obtain ⟨b, off, spot⟩ := y
      have c0 := (hall 0 (by omega)).1
      have hs : spot = none := by simpa [Addr.add] using World.cell?_spot c0
      subst hs
      have ad : ∀ i j, ((⟨b, off, none⟩ : Addr).add (i * 2)).add j = ⟨b, off + i * 2 + j, none⟩ := fun i j => by
        unfold Addr.add
        split <;> split <;> simp_all
      refine ⟨b, off, rfl, fun i hi => ?_⟩
      obtain ⟨h0, h1⟩ := hall i hi
      rw [ad] at h0 h1
      exact ⟨h0, h1⟩
end Go.Proofs.Ytbbmjfaflcbimaa
