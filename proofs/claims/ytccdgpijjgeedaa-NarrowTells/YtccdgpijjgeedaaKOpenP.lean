/- Points among a law's arguments, opened and shut. -/
import Derived.Test.YtccdgpijjgeedaaProg
import Derived.Lib.SmallJoins
import Derived.OpenShut
import Derived.Test.YtccdgpijjgeedaaKShR
import Derived.Deep.Slices
namespace Go.Proofs.Ytccdgpijjgeedaa
open Go.ChangeShapes Go.WideShapes Go.Deep Go.Joins

section
variable {H : Type} {enc : TypeId × Value → H} {w : World} {base : Nat} {spare : Nat → Bool} {held : Bool}

theorem lit_of {n : Nat} {c : Value} {y : DataW H × List MemPlace} (h : DataW.trod enc Try.prog w base spare held n 3 [c] = some y) : ∃ x : Int, c = .int .i64 x ∧ y = (.lit (.int .i64 x), []) ∧ (Lit.int .i64 x).wf = true := by
  obtain ⟨x, h1, h2, h3⟩ := DataW.trod_int Try.underlying3 h
  simp at h1
  exact ⟨x, h1, h2, h3⟩
theorem of_lit {x : Int} (h : (Lit.int .i64 x).wf = true) : ∃ n, DataW.trod enc Try.prog w base spare held n 3 [.int .i64 x] = some (.lit (.int .i64 x), []) :=
  field_of_Trod (shut_int Try.underlying3 h) rfl
set_option maxRecDepth 100000 in
theorem open_point {r : Reach} {b0 : Nat} {v : Value} {d : DataW H} {p : List MemPlace} (hv : Value.okWide Try.prog w r b0 26 v) (h : DataW.Trod enc Try.prog w base spare held 26 v d p) :
    ∃ x y z : Int, v = .agg #[.int .i64 x, .int .i64 y, .int .i64 z] ∧ d = .agg [.lit (.int .i64 x), .lit (.int .i64 y), .lit (.int .i64 z)] ∧ p = [] ∧ (Lit.int .i64 x).wf = true ∧ (Lit.int .i64 y).wf = true ∧ (Lit.int .i64 z).wf = true := by
  obtain ⟨c0, c1, c2, y0, y1, y2, n, rfl, rfl, rfl, t0, t1, t2⟩ := open_agg3 Try.underlying26 (by kernel_rfl) (by kernel_rfl) hv h
  obtain ⟨x, rfl, rfl, hx⟩ := lit_of t0
  obtain ⟨y, rfl, rfl, hy⟩ := lit_of t1
  obtain ⟨z, rfl, rfl, hz⟩ := lit_of t2
  exact ⟨x, y, z, rfl, rfl, rfl, hx, hy, hz⟩
set_option maxRecDepth 100000 in
theorem shut_point {x y z : Int} (hx : (Lit.int .i64 x).wf = true) (hy : (Lit.int .i64 y).wf = true) (hz : (Lit.int .i64 z).wf = true) :
    DataW.Trod enc Try.prog w base spare held 26 (.agg #[.int .i64 x, .int .i64 y, .int .i64 z]) (.agg [.lit (.int .i64 x), .lit (.int .i64 y), .lit (.int .i64 z)]) [] :=
  shut_agg3 (y0 := (.lit (.int .i64 x), [])) (y1 := (.lit (.int .i64 y), [])) (y2 := (.lit (.int .i64 z), [])) Try.underlying26 (by kernel_rfl) (by kernel_rfl) (of_lit hx) (of_lit hy) (of_lit hz)
end
end Go.Proofs.Ytccdgpijjgeedaa
/- A raw shape among a law's arguments, opened with its points. -/
namespace Go.Proofs.Ytccdgpijjgeedaa
open Go.ChangeShapes Go.WideShapes Go.Deep Go.Joins
set_option linter.unusedVariables false

theorem points_of {H : Type} {enc : TypeId × Value → H} {W : World} {base : Nat} {spare : Nat → Bool} {held : Bool} {a : Option Addr} {len cap fuel : Nat} {x : DataW H × List MemPlace}
    (h : DataW.trod enc Try.prog W base spare held fuel 22 [.slice a len cap] = some x) : ∃ L : List Pt, L.length = len ∧ Lies W (.slice a len cap) L ∧ ∀ p ∈ L, p.fits := by
  rcases Deep.open_slice Try.underlying22 h with ⟨hcs, _⟩ | ⟨y, l, c, m, n, D, Pl, hcs, _, hl, hm, hmm, _, hx⟩
  · simp at hcs
    obtain ⟨rfl, rfl, rfl⟩ := hcs
    exact ⟨[], rfl, ⟨none, 0, rfl, by simp, by omega, fun i hi => by simp at hi⟩, by simp⟩
  · simp at hcs
    obtain ⟨rfl, rfl, rfl⟩ := hcs
    unfold maxLen at hm
    have hlm : len ≤ m := by rw [hmm]; split <;> omega
    have hc3 : Try.prog.cellsOf 26 = 3 := by kernel_rfl
    have hc1 : Try.prog.cellsOf 3 = 1 := by kernel_rfl
    have each : ∀ i, i < len → ∃ q : Pt, (W.cell? ((y.add (i * 3)).add 0) = some (.int .i64 q.x) ∧ W.cell? ((y.add (i * 3)).add 1) = some (.int .i64 q.y) ∧ W.cell? ((y.add (i * 3)).add 2) = some (.int .i64 q.z)) ∧ q.fits := by
      intro i hi
      obtain ⟨cs', hcells, ht⟩ := hx i (by omega)
      rw [hc3] at hcells
      obtain ⟨_, hlen, hcell⟩ := World.cells?_some hcells
      obtain ⟨xs, k, _, _, _, hxl, hel⟩ := DataW.trod_struct Try.underlying26 ht
      have get : ∀ (v : Value) (j : Nat), ((cs'.drop j).take 1) = [v] → cs'[j]? = some v := fun v j h => by
        have h2 : ((cs'.drop j).take 1)[0]? = some v := by rw [h]; rfl
        simpa [List.getElem?_take, List.getElem?_drop] using h2
      have some_of : ∀ j, j < 3 → ∃ z, xs[j]? = some z := fun j hj => ⟨_, List.getElem?_eq_getElem (by rw [hxl]; exact hj)⟩
      have e0 := hel 0 _ rfl
      have e1 := hel 1 _ rfl
      have e2 := hel 2 _ rfl
      obtain ⟨z0, hz0⟩ := some_of 0 (by omega)
      obtain ⟨z1, hz1⟩ := some_of 1 (by omega)
      obtain ⟨z2, hz2⟩ := some_of 2 (by omega)
      rw [hz0] at e0
      rw [hz1] at e1
      rw [hz2] at e2
      obtain ⟨p, hp, _, wp⟩ := DataW.trod_int Try.underlying3 e0
      obtain ⟨q, hq, _, wq⟩ := DataW.trod_int Try.underlying3 e1
      obtain ⟨r, hr, _, wr⟩ := DataW.trod_int Try.underlying3 e2
      have hp2 : (cs'.drop 0).take (Try.prog.cellsOf 3) = [.int .i64 p] := hp
      have hq2 : (cs'.drop 1).take (Try.prog.cellsOf 3) = [.int .i64 q] := hq
      have hr2 : (cs'.drop 2).take (Try.prog.cellsOf 3) = [.int .i64 r] := hr
      rw [hc1] at hp2 hq2 hr2
      have b0 := bounds_i64 wp
      have b1 := bounds_i64 wq
      have b2 := bounds_i64 wr
      exact ⟨⟨p, q, r⟩, ⟨(hcell 0 (by omega)).trans (get _ 0 hp2), (hcell 1 (by omega)).trans (get _ 1 hq2), (hcell 2 (by omega)).trans (get _ 2 hr2)⟩, ⟨by dsimp only; omega, by dsimp only; omega⟩, ⟨by dsimp only; omega, by dsimp only; omega⟩, ⟨by dsimp only; omega, by dsimp only; omega⟩⟩
    have ch : ∃ (l : Nat → Pt), ∀ i, i < len → (W.cell? ((y.add (i * 3)).add 0) = some (.int .i64 (l i).x) ∧ W.cell? ((y.add (i * 3)).add 1) = some (.int .i64 (l i).y) ∧ W.cell? ((y.add (i * 3)).add 2) = some (.int .i64 (l i).z)) ∧ (l i).fits := by
      refine ⟨fun i => if h : i < len then (each i h).choose else default, fun i hi => ?_⟩
      simp only [dif_pos hi]
      exact (each i hi).choose_spec
    obtain ⟨l, hall⟩ := ch
    have hln : ((List.range len).map l).length = len := by simp
    have hpt : ∀ i, i < len → pt ((List.range len).map l) i = l i := fun i hi => by unfold pt; simp [hi]
    refine ⟨(List.range len).map l, hln, ⟨some y, cap, by rw [hln], by rw [hln]; exact hl, by omega, fun i hi => ?_⟩, fun p hp => ?_⟩
    · rw [hln] at hi
      obtain ⟨b, off, spot⟩ := y
      obtain ⟨⟨h0, h1, h2⟩, _⟩ := hall i hi
      have hs : spot = none := by simpa [Addr.add] using World.cell?_spot (hall 0 (by omega)).1.1
      subst hs
      have ad : ∀ i j, ((⟨b, off, none⟩ : Addr).add (i * 3)).add j = ⟨b, off + i * 3 + j, none⟩ := fun i j => by
        unfold Addr.add
        split <;> split <;> simp_all
      rw [ad] at h0 h1 h2
      exact ⟨b, off, rfl, by rw [hpt i hi]; exact h0, by rw [hpt i hi]; exact h1, by rw [hpt i hi]; exact h2⟩
    · rw [List.mem_map] at hp
      obtain ⟨i, hi, rfl⟩ := hp
      exact (hall i (by simpa using hi)).2
set_option maxRecDepth 100000 in
theorem open_raw2 {H : Type} {enc : TypeId × Value → H} {w : World} {base : Nat} {spare : Nat → Bool} {held : Bool} {r : Reach} {b0 : Nat} {v : Value} {d : DataW H} {p : List MemPlace} (hv : Value.okWide Try.prog w r b0 37 v) (h : DataW.Trod enc Try.prog w base spare held 37 v d p) :
    ∃ (k rr x y z : Int) (a : Option Addr) (L : List Pt) (cap : Nat), v = .agg #[.int .i64 k, .int .i64 rr, .int .i64 x, .int .i64 y, .int .i64 z, .slice a L.length cap] ∧ Lies w (.slice a L.length cap) L ∧ (∀ p ∈ L, p.fits) ∧ (Lit.int .i64 k).wf = true ∧ (Lit.int .i64 rr).wf = true ∧ (Lit.int .i64 x).wf = true ∧ (Lit.int .i64 y).wf = true ∧ (Lit.int .i64 z).wf = true := by
  obtain ⟨cs, rfl, hsz⟩ := okWide_struct Try.underlying37 hv
  have hC : Try.prog.cellsOf 37 = 6 := by kernel_rfl
  obtain ⟨u0, u1, u2, u3, u4, u5, rfl⟩ := arr6 (hsz.trans hC)
  obtain ⟨fuel, hf⟩ := h
  have hf2 : DataW.trod enc Try.prog w base spare held fuel 37 [u0, u1, u2, u3, u4, u5] = some (d, p) := hf
  obtain ⟨xs, n, _, _, _, hxl, hel⟩ := DataW.trod_struct Try.underlying37 hf2
  have hc1 : Try.prog.cellsOf 3 = 1 := by kernel_rfl
  have hc3 : Try.prog.cellsOf 26 = 3 := by kernel_rfl
  have hcs : Try.prog.cellsOf 22 = 1 := by kernel_rfl
  have some_of : ∀ j, j < 4 → ∃ z, xs[j]? = some z := fun j hj => ⟨_, List.getElem?_eq_getElem (by rw [hxl]; exact hj)⟩
  obtain ⟨z0, hz0⟩ := some_of 0 (by omega)
  obtain ⟨z1, hz1⟩ := some_of 1 (by omega)
  obtain ⟨z2, hz2⟩ := some_of 2 (by omega)
  obtain ⟨z3, hz3⟩ := some_of 3 (by omega)
  have e0 := hel 0 _ rfl
  have e1 := hel 1 _ rfl
  have e2 := hel 2 _ rfl
  have e3 := hel 3 _ rfl
  rw [hz0] at e0
  rw [hz1] at e1
  rw [hz2] at e2
  rw [hz3] at e3
  have q0 : DataW.trod enc Try.prog w base spare held n 3 [u0] = some z0 := by have this : DataW.trod enc Try.prog w base spare held n 3 (([u0, u1, u2, u3, u4, u5].drop 0).take (Try.prog.cellsOf 3)) = some z0 := e0; rw [hc1] at this; exact this
  have q1 : DataW.trod enc Try.prog w base spare held n 3 [u1] = some z1 := by have this : DataW.trod enc Try.prog w base spare held n 3 (([u0, u1, u2, u3, u4, u5].drop 1).take (Try.prog.cellsOf 3)) = some z1 := e1; rw [hc1] at this; exact this
  have q2 : DataW.trod enc Try.prog w base spare held n 26 [u2, u3, u4] = some z2 := by have this : DataW.trod enc Try.prog w base spare held n 26 (([u0, u1, u2, u3, u4, u5].drop 2).take (Try.prog.cellsOf 26)) = some z2 := e2; rw [hc3] at this; exact this
  have q3 : DataW.trod enc Try.prog w base spare held n 22 [u5] = some z3 := by have this : DataW.trod enc Try.prog w base spare held n 22 (([u0, u1, u2, u3, u4, u5].drop 5).take (Try.prog.cellsOf 22)) = some z3 := e3; rw [hcs] at this; exact this
  obtain ⟨k, rfl, _, wk⟩ := lit_of q0
  obtain ⟨rr, rfl, _, wr⟩ := lit_of q1
  obtain ⟨ys, m, _, _, _, hyl, hey⟩ := DataW.trod_struct Try.underlying26 q2
  have some_y : ∀ j, j < 3 → ∃ z, ys[j]? = some z := fun j hj => ⟨_, List.getElem?_eq_getElem (by rw [hyl]; exact hj)⟩
  obtain ⟨y0, hy0⟩ := some_y 0 (by omega)
  obtain ⟨y1, hy1⟩ := some_y 1 (by omega)
  obtain ⟨y2, hy2⟩ := some_y 2 (by omega)
  have g0 := hey 0 _ rfl
  have g1 := hey 1 _ rfl
  have g2 := hey 2 _ rfl
  rw [hy0] at g0
  rw [hy1] at g1
  rw [hy2] at g2
  have p0 : DataW.trod enc Try.prog w base spare held m 3 [u2] = some y0 := by have this : DataW.trod enc Try.prog w base spare held m 3 (([u2, u3, u4].drop 0).take (Try.prog.cellsOf 3)) = some y0 := g0; rw [hc1] at this; exact this
  have p1 : DataW.trod enc Try.prog w base spare held m 3 [u3] = some y1 := by have this : DataW.trod enc Try.prog w base spare held m 3 (([u2, u3, u4].drop 1).take (Try.prog.cellsOf 3)) = some y1 := g1; rw [hc1] at this; exact this
  have p2 : DataW.trod enc Try.prog w base spare held m 3 [u4] = some y2 := by have this : DataW.trod enc Try.prog w base spare held m 3 (([u2, u3, u4].drop 2).take (Try.prog.cellsOf 3)) = some y2 := g2; rw [hc1] at this; exact this
  obtain ⟨x, rfl, _, wx⟩ := lit_of p0
  obtain ⟨y, rfl, _, wy⟩ := lit_of p1
  obtain ⟨z, rfl, _, wz⟩ := lit_of p2
  have hs : ∃ a len cap, u5 = .slice a len cap := by
    rcases Deep.open_slice Try.underlying22 q3 with ⟨hcs, _⟩ | ⟨y, l, c, mm, nn, D, Pl, hcs, _⟩
    · simp at hcs; exact ⟨_, _, _, hcs⟩
    · simp at hcs; exact ⟨_, _, _, hcs⟩
  obtain ⟨a, len, cap, rfl⟩ := hs
  obtain ⟨L, rfl, hL, hF⟩ := points_of q3
  exact ⟨k, rr, x, y, z, a, L, cap, rfl, hL, hF, wk, wr, wx, wy, wz⟩
end Go.Proofs.Ytccdgpijjgeedaa
