/- A core among a law's arguments, opened with its three lists. -/
import Derived.Test.YtbhdfjoagajipaaGreatBBW18
import Derived.Test.YtbhdfjoagajipaaGreatProg
import Derived.Lib.SmallJoins
import Derived.OpenShut
import Derived.Test.YtbhdfjoagajipaaGreatBBW7
import Derived.Test.YtbhdfjoagajipaaGreatBBW0
import Derived.WalkKit
import Derived.Orders
import Derived.Below
import Derived.Laws.Rows
import Derived.Test.YtbhdfjoagajipaaGreatBBW6
import Derived.Test.YtbhdfjoagajipaaGreatBBW1
import Derived.RangeFuncBox
import Derived.Shelf.Abstract
import Derived.OwnWalkIn
import Derived.TacticsInMore
import Derived.LoopNIn
import Derived.LoopIn
import Derived.LoopTactic
import Derived.ProofKit
import Derived.Handy
import Derived.Laws.MakeOwn
import Derived.Laws.OwnMore
import Derived.Maps.AppendAt
import Derived.Deep.RegionWith
import Derived.Deep.QuietTactic
import Derived.BigQuiet
import Derived.Deep.CutBlock
import Derived.Deep.CutRange
import Derived.Deep.LoopGhost
import Derived.RowKit
import Derived.OneCell
import Derived.WalkMore
import Derived.Lib.BufferMore
import Derived.Laws.MathBits
import Derived.Laws.Externs
import Derived.Laws.BitsAllLaws
import Derived.WalkLawsBesides
import Derived.Deep.Slices
import Derived.SizedLaws
import Derived.Test.YtbhdfjoagajipaaGreatBBW5
import Derived.Test.YtbhdfjoagajipaaGreatBBW4
import Derived.Test.YtbhdfjoagajipaaGreatBBW3
import Derived.Test.YtbhdfjoagajipaaGreatBBW2
import Derived.RangeFuncNested
import Derived.RangeFuncBound
import Derived.RangeFuncCalls
import Derived.RangeFuncLeaves
import Derived.Scope
import Derived.OrdersIn
import Derived.Sort.CutIn
import Derived.Test.YtbhdfjoagajipaaGreatBBW9
import Derived.Deep.Grids
namespace Go.Proofs.YtbhdfjoagajipaaGreat
open Go.ChangeShapes Go.WideShapes Go.Deep Go.Joins
set_option linter.unusedVariables false

theorem slice_of {H : Type} {enc : TypeId × Value → H} {W : World} {base : Nat} {spare : Nat → Bool} {held : Bool} {fuel : Nat} {u : Value} {x : DataW H × List MemPlace}
    (h : DataW.trod enc Tryz.prog W base spare held fuel 24 [u] = some x) : ∃ a L cap, u = .slice a (List.length (α := Pt) L) cap ∧ Lies W u L := by
  have hs : ∃ a len cap, u = .slice a len cap := by
    rcases Deep.open_slice Tryz.underlying24 h with ⟨hcs, _⟩ | ⟨y, l, c, mm, nn, D, Pl, hcs, _⟩
    · simp at hcs; exact ⟨_, _, _, hcs⟩
    · simp at hcs; exact ⟨_, _, _, hcs⟩
  obtain ⟨a, len, cap, rfl⟩ := hs
  obtain ⟨L, rfl, hL, hF⟩ := points_of h
  exact ⟨a, L, cap, rfl, hL⟩
end Go.Proofs.YtbhdfjoagajipaaGreat
namespace Go.Proofs.YtbhdfjoagajipaaGreat
open Go.ChangeShapes Go.WideShapes Go.Deep Go.Joins Go.RowKit Go.Shelf
set_option linter.unusedVariables false

theorem z_addL (g off j : Nat) : (⟨g, off, none⟩ : Addr).add j = ⟨g, off + j, none⟩ := by unfold Addr.add; split <;> simp_all
theorem zchooseL {α : Type} (P : Nat → α → Prop) : ∀ (n : Nat), (∀ i, i < n → ∃ z, P i z) → ∃ L : List α, L.length = n ∧ ∀ i, i < n → ∃ z, L[i]? = some z ∧ P i z
  | 0, _ => ⟨[], rfl, fun i hi => absurd hi (by omega)⟩
  | n + 1, h => by
    obtain ⟨L, hl, hL⟩ := zchooseL P n (fun i hi => h i (by omega))
    obtain ⟨z, hz⟩ := h n (by omega)
    refine ⟨L ++ [z], by simp [hl], fun i hi => ?_⟩
    by_cases e : i < n
    · obtain ⟨y, hy, py⟩ := hL i e
      exact ⟨y, by rw [List.getElem?_append_left (by omega)]; exact hy, py⟩
    · have : i = n := by omega
      subst this
      exact ⟨z, by rw [List.getElem?_append_right (by omega), hl]; simp, hz⟩
theorem mem_weightsL {H : Type} {e : TypeId} {d : DataW H} : ∀ {l : List (DataW H)}, d ∈ l → ∀ n ∈ d.weights Tryz.prog e, n ∈ DataW.weightsAll Tryz.prog e l
  | [], h, _, _ => by cases h
  | x :: r, h, n, hn => by
    rw [DataW.weightsAll]
    rcases List.mem_cons.1 h with rfl | h
    · exact List.mem_append_left _ hn
    · exact List.mem_append_right _ (mem_weightsL h n hn)
section
variable {H : Type} {enc : TypeId × Value → H} {W : World} {base : Nat} {spare : Nat → Bool} {held : Bool}
/-- A list whose elements are read by a law of their own. -/
theorem open_listL {α : Type} {t e : TypeId} (n : Nat) (ht : Tryz.prog.underlying t = some (.slice e)) (hn : Tryz.prog.cellsOf e = n) (hn0 : 0 < n) (P : Nat → Prop) (Q : α → List Value → Prop)
    (each : ∀ fuel cs x, cs.length = n → DataW.trod enc Tryz.prog W base spare held fuel e cs = some x → (∀ m ∈ x.1.weights Tryz.prog e, P m) → ∃ q, Q q cs)
    {u : Value} {fuel : Nat} {x : DataW H × List MemPlace} (h : DataW.trod enc Tryz.prog W base spare held fuel t [u] = some x) (hP : ∀ m ∈ x.1.weights Tryz.prog t, P m) :
    ∃ (o : Option Addr) (L : List α) (cap : Nat), u = .slice o L.length cap ∧ L.length ≤ cap ∧ cap ≤ 9223372036854775807 ∧ (L ≠ [] → P (L.length * Tryz.prog.bytesOf e) ∨ ∃ m, L.length * Tryz.prog.bytesOf e ≤ m ∧ P m) ∧ ∀ i, i < L.length → ∃ q cs g off, L[i]? = some q ∧ Q q cs ∧ cs.length = n ∧ o = some ⟨g, off, none⟩ ∧ ∀ j v, cs[j]? = some v → W.cell? ⟨g, off + i * n + j, none⟩ = some v := by
  rcases Deep.open_slice ht h with ⟨hcs, _⟩ | ⟨y, len, cap, m, k, D, Pl, hcs, _, hl, hm, hmm, hxe, hx⟩
  · simp at hcs
    subst hcs
    exact ⟨none, [], 0, rfl, by simp, by omega, fun h => absurd rfl h, fun i hi => by simp at hi⟩
  · simp at hcs
    subst hcs
    unfold maxLen at hm
    have hlm : len ≤ m := by rw [hmm]; split <;> omega
    have hw : ∀ i, i < len → ∀ q ∈ (D i).weights Tryz.prog e, P q := fun i hi q hq => by
      refine hP q ?_
      rw [hxe]
      simp only [DataW.weights, ht]
      refine List.mem_cons_of_mem _ (List.mem_append_left _ (mem_weightsL ?_ q hq))
      exact List.mem_map.2 ⟨i, List.mem_range.2 hi, rfl⟩
    obtain ⟨L, hL, hLa⟩ := zchooseL (fun i (q : α) => ∃ cs, Q q cs ∧ cs.length = n ∧ ∀ j v, cs[j]? = some v → W.cell? ((y.add (i * n)).add j) = some v) len (fun i hi => by
      obtain ⟨cs', hcells, ht'⟩ := hx i (by omega)
      rw [hn] at hcells
      obtain ⟨_, hlen, hcell⟩ := World.cells?_some hcells
      obtain ⟨q, hq⟩ := each _ cs' _ hlen ht' (hw i hi)
      exact ⟨q, cs', hq, hlen, fun j v hj => (hcell j (by have := (List.getElem?_eq_some_iff.1 hj).1; omega)).trans hj⟩)
    subst hL
    refine ⟨some y, L, cap, rfl, hl, by omega, fun _ => Or.inr ⟨(L.length + (m - L.length)) * Tryz.prog.bytesOf e, Nat.mul_le_mul_right _ (by omega), hP _ (by rw [hxe]; simp [DataW.weights, ht])⟩, fun i hi => ?_⟩
    obtain ⟨q, hq, cs, h1, h2, h3⟩ := hLa i hi
    obtain ⟨b, off, spot⟩ := y
    have hs : spot = none := by
      obtain ⟨q', _, cs', _, l', h3'⟩ := hLa 0 (by omega)
      have h0 : 0 < cs'.length := by omega
      have := World.cell?_spot (h3' 0 _ (List.getElem?_eq_getElem h0))
      simpa [Addr.add] using this
    subst hs
    refine ⟨q, cs, b, off, hq, h1, h2, rfl, fun j v hj => ?_⟩
    have := h3 j v hj
    rw [z_addL, z_addL] at this
    exact this
theorem list4l {l : List Value} (h : l.length = 4) : ∃ a b c d, l = [a, b, c, d] := by
  match l, h with
  | [a, b, c, d], _ => exact ⟨a, b, c, d, rfl⟩
theorem core_of {fuel : Nat} {cs : List Value} {x : DataW H × List MemPlace} (hl : cs.length = 4) (h : DataW.trod enc Tryz.prog W base spare held fuel 35 cs = some x) : ∃ (q : Cr) (pv av ev : Value), cs = [pv, av, ev, .int .i64 q.r] ∧ Lies W pv q.P ∧ Lies W av q.A ∧ Lies W ev q.E := by
  obtain ⟨u0, u1, u2, u3, rfl⟩ := list4l hl
  obtain ⟨xs, n, _, _, _, hxl, hel⟩ := DataW.trod_struct Tryz.underlying35 h
  have hc1 : Tryz.prog.cellsOf 3 = 1 := by kernel_rfl
  have hcs : Tryz.prog.cellsOf 24 = 1 := by kernel_rfl
  have some_of : ∀ j, j < 4 → ∃ z, xs[j]? = some z := fun j hj => ⟨_, List.getElem?_eq_getElem (by rw [hxl]; exact hj)⟩
  obtain ⟨z0, hz0⟩ := some_of 0 (by omega)
  obtain ⟨z1, hz1⟩ := some_of 1 (by omega)
  obtain ⟨z2, hz2⟩ := some_of 2 (by omega)
  obtain ⟨z3, hz3⟩ := some_of 3 (by omega)
  have e0 := hel 0 _ rfl
  have e1 := hel 1 _ rfl
  have e2 := hel 2 _ rfl
  have e3 := hel 3 _ rfl
  rw [hz0] at e0
  rw [hz1] at e1
  rw [hz2] at e2
  rw [hz3] at e3
  have q0 : DataW.trod enc Tryz.prog W base spare held n 24 [u0] = some z0 := by have this : DataW.trod enc Tryz.prog W base spare held n 24 (([u0, u1, u2, u3].drop 0).take (Tryz.prog.cellsOf 24)) = some z0 := e0; rw [hcs] at this; exact this
  have q1 : DataW.trod enc Tryz.prog W base spare held n 24 [u1] = some z1 := by have this : DataW.trod enc Tryz.prog W base spare held n 24 (([u0, u1, u2, u3].drop 1).take (Tryz.prog.cellsOf 24)) = some z1 := e1; rw [hcs] at this; exact this
  have q2 : DataW.trod enc Tryz.prog W base spare held n 24 [u2] = some z2 := by have this : DataW.trod enc Tryz.prog W base spare held n 24 (([u0, u1, u2, u3].drop 2).take (Tryz.prog.cellsOf 24)) = some z2 := e2; rw [hcs] at this; exact this
  have q3 : DataW.trod enc Tryz.prog W base spare held n 3 [u3] = some z3 := by have this : DataW.trod enc Tryz.prog W base spare held n 3 (([u0, u1, u2, u3].drop 3).take (Tryz.prog.cellsOf 3)) = some z3 := e3; rw [hc1] at this; exact this
  obtain ⟨a1, L1, c1, rfl, k1⟩ := slice_of q0
  obtain ⟨a2, L2, c2, rfl, k2⟩ := slice_of q1
  obtain ⟨a3, L3, c3, rfl, k3⟩ := slice_of q2
  obtain ⟨rr, rfl, _, wr⟩ := lit_of q3
  exact ⟨⟨L1, L2, L3, rr⟩, _, _, _, rfl, k1, k2, k3⟩
end
set_option maxRecDepth 100000 in
theorem open_cores {H : Type} {enc : TypeId × Value → H} {w : World} {base : Nat} {spare : Nat → Bool} {held : Bool} {r : Reach} {b0 : Nat} {v : Value} {d : DataW H} {p : List MemPlace} (hv : Value.okWide Tryz.prog w r b0 42 v) (h : DataW.Trod enc Tryz.prog w base spare held 42 v d p) :
    ∃ (L : List Cr), LiesC w v L := by
  obtain ⟨a, len, cap, rfl⟩ := okWide_slice Tryz.underlying42 hv
  obtain ⟨fuel, hf⟩ := h
  obtain ⟨o, L, c, e, h1, h2, _, h4⟩ := open_listL (α := Cr) 4 Tryz.underlying42 (by kernel_rfl) (by omega) (fun m => True) (fun q cs => ∃ pv av ev, cs = [pv, av, ev, .int .i64 q.r] ∧ Lies w pv q.P ∧ Lies w av q.A ∧ Lies w ev q.E)
    (fun fuel cs x hl ht hP => core_of hl ht) (u := .slice a len cap) hf (fun _ _ => trivial)
  refine ⟨L, ⟨o, c, e, h1, h2, fun i hi => ?_⟩⟩
  obtain ⟨q, cs, g, off, hq, ⟨pv, av, ev, rfl, l1, l2, l3⟩, _, ho, hc⟩ := h4 i hi
  have eq : cr L i = q := by unfold cr; rw [hq]; rfl
  rw [eq]
  exact ⟨g, off, pv, av, ev, ho, hc 0 _ rfl, hc 1 _ rfl, hc 2 _ rfl, hc 3 _ rfl, l1, l2, l3⟩
theorem arr3l {cs : Array Value} (h : cs.size = 3) : ∃ u0 u1 u2, cs = #[u0, u1, u2] := by
  obtain ⟨l⟩ := cs
  match l, h with
  | [a, b, c], _ => exact ⟨a, b, c, rfl⟩
set_option maxRecDepth 100000 in
theorem open_vec18 {H : Type} {enc : TypeId × Value → H} {w : World} {base : Nat} {spare : Nat → Bool} {held : Bool} {rr : Reach} {b0 : Nat} {v : Value} {d : DataW H} {p : List MemPlace} (hv : Value.okWide Tryz.prog w rr b0 27 v) (h : DataW.Trod enc Tryz.prog w base spare held 27 v d p) : ∃ a : V3, v = a.val ∧ ∀ n ∈ ([a.x, a.y, a.z] : List Int), -9223372036854775808 ≤ n ∧ n ≤ 9223372036854775807 := by
  obtain ⟨cs, rfl, hsz⟩ := okWide_struct Tryz.underlying27 hv
  have hC : Tryz.prog.cellsOf 27 = 3 := by kernel_rfl
  obtain ⟨u0, u1, u2, rfl⟩ := arr3l (hsz.trans hC)
  obtain ⟨fuel, hf⟩ := h
  have hf2 : DataW.trod enc Tryz.prog w base spare held fuel 27 [u0, u1, u2] = some (d, p) := hf
  obtain ⟨xs, n, _, _, _, hxl, hel⟩ := DataW.trod_struct Tryz.underlying27 hf2
  have hc1 : Tryz.prog.cellsOf 3 = 1 := by kernel_rfl
  have some_of : ∀ j, j < 3 → ∃ z, xs[j]? = some z := fun j hj => ⟨_, List.getElem?_eq_getElem (by rw [hxl]; exact hj)⟩
  obtain ⟨z0, hz0⟩ := some_of 0 (by omega)
  obtain ⟨z1, hz1⟩ := some_of 1 (by omega)
  obtain ⟨z2, hz2⟩ := some_of 2 (by omega)
  have e0 := hel 0 _ rfl
  have e1 := hel 1 _ rfl
  have e2 := hel 2 _ rfl
  rw [hz0] at e0
  rw [hz1] at e1
  rw [hz2] at e2
  have q0 : DataW.trod enc Tryz.prog w base spare held n 3 [u0] = some z0 := by have this : DataW.trod enc Tryz.prog w base spare held n 3 (([u0, u1, u2].drop 0).take (Tryz.prog.cellsOf 3)) = some z0 := e0; rw [hc1] at this; exact this
  have q1 : DataW.trod enc Tryz.prog w base spare held n 3 [u1] = some z1 := by have this : DataW.trod enc Tryz.prog w base spare held n 3 (([u0, u1, u2].drop 1).take (Tryz.prog.cellsOf 3)) = some z1 := e1; rw [hc1] at this; exact this
  have q2 : DataW.trod enc Tryz.prog w base spare held n 3 [u2] = some z2 := by have this : DataW.trod enc Tryz.prog w base spare held n 3 (([u0, u1, u2].drop 2).take (Tryz.prog.cellsOf 3)) = some z2 := e2; rw [hc1] at this; exact this
  obtain ⟨x, rfl, _, w1⟩ := lit_of q0
  obtain ⟨y, rfl, _, w2⟩ := lit_of q1
  obtain ⟨z, rfl, _, w3⟩ := lit_of q2
  refine ⟨⟨x, y, z⟩, rfl, fun n hn => ?_⟩
  have wf : (Lit.int .i64 n).wf = true := by
    simp only [List.mem_cons, List.not_mem_nil, or_false] at hn
    rcases hn with rfl | rfl | rfl <;> assumption
  have := bounds_i64 wf
  omega
end Go.Proofs.YtbhdfjoagajipaaGreat
