/- Points among a law's arguments, opened and shut. -/
import Derived.Test.YtompnibhfdkkjaaGreatProg
import Derived.Lib.SmallJoins
import Derived.OpenShut
import Derived.Deep.Slices
import Derived.Test.YtompnibhfdkkjaaGreatSPPlace25
import Derived.SizedLaws
namespace Go.Proofs.YtompnibhfdkkjaaGreat
open Go.ChangeShapes Go.WideShapes Go.Deep Go.Joins

section
variable {H : Type} {enc : TypeId × Value → H} {w : World} {base : Nat} {spare : Nat → Bool} {held : Bool}

theorem lit_of {n : Nat} {c : Value} {y : DataW H × List MemPlace} (h : DataW.trod enc Tryz.prog w base spare held n 3 [c] = some y) : ∃ x : Int, c = .int .i64 x ∧ y = (.lit (.int .i64 x), []) ∧ (Lit.int .i64 x).wf = true := by
  obtain ⟨x, h1, h2, h3⟩ := DataW.trod_int Tryz.underlying3 h
  simp at h1
  exact ⟨x, h1, h2, h3⟩
set_option maxRecDepth 100000 in
theorem open_point {r : Reach} {b0 : Nat} {v : Value} {d : DataW H} {p : List MemPlace} (hv : Value.okWide Tryz.prog w r b0 31 v) (h : DataW.Trod enc Tryz.prog w base spare held 31 v d p) :
    ∃ x y z : Int, v = .agg #[.int .i64 x, .int .i64 y, .int .i64 z] ∧ d = .agg [.lit (.int .i64 x), .lit (.int .i64 y), .lit (.int .i64 z)] ∧ p = [] ∧ (Lit.int .i64 x).wf = true ∧ (Lit.int .i64 y).wf = true ∧ (Lit.int .i64 z).wf = true := by
  obtain ⟨c0, c1, c2, y0, y1, y2, n, rfl, rfl, rfl, t0, t1, t2⟩ := open_agg3 Tryz.underlying31 (by kernel_rfl) (by kernel_rfl) hv h
  obtain ⟨x, rfl, rfl, hx⟩ := lit_of t0
  obtain ⟨y, rfl, rfl, hy⟩ := lit_of t1
  obtain ⟨z, rfl, rfl, hz⟩ := lit_of t2
  exact ⟨x, y, z, rfl, rfl, rfl, hx, hy, hz⟩
end
end Go.Proofs.YtompnibhfdkkjaaGreat
namespace Go.Proofs.YtompnibhfdkkjaaGreat
open Go.ChangeShapes Go.WideShapes Go.Deep Go.Joins
set_option linter.unusedVariables false

theorem arr7q {cs : Array Value} (h : cs.size = 7) : ∃ a b c d e f g, cs = #[a, b, c, d, e, f, g] := by
  obtain ⟨l⟩ := cs
  match l, h with
  | [a, b, c, d, e, f, g], _ => exact ⟨a, b, c, d, e, f, g, rfl⟩
section
variable {H : Type} {enc : TypeId × Value → H} {w : World} {base : Nat} {spare : Nat → Bool} {held : Bool}
theorem vec_of {n : Nat} {u0 u1 u2 : Value} {z : DataW H × List MemPlace} (h : DataW.trod enc Tryz.prog w base spare held n 26 [u0, u1, u2] = some z) : ∃ x0 x1 x2 : Int, u0 = .int .i64 x0 ∧ u1 = .int .i64 x1 ∧ u2 = .int .i64 x2 ∧ (Lit.int .i64 x0).wf = true ∧ (Lit.int .i64 x1).wf = true ∧ (Lit.int .i64 x2).wf = true := by
  have hc1 : Tryz.prog.cellsOf 3 = 1 := by kernel_rfl
  obtain ⟨ys, m, _, _, _, hyl, hey⟩ := DataW.trod_struct Tryz.underlying26 h
  have some_y : ∀ j, j < 3 → ∃ z, ys[j]? = some z := fun j hj => ⟨_, List.getElem?_eq_getElem (by rw [hyl]; exact hj)⟩
  obtain ⟨y0, hy0⟩ := some_y 0 (by omega)
  have g0 := hey 0 _ rfl
  rw [hy0] at g0
  have p0 : DataW.trod enc Tryz.prog w base spare held m 3 [u0] = some y0 := by have this : DataW.trod enc Tryz.prog w base spare held m 3 (([u0, u1, u2].drop 0).take (Tryz.prog.cellsOf 3)) = some y0 := g0; rw [hc1] at this; exact this
  obtain ⟨y1, hy1⟩ := some_y 1 (by omega)
  have g1 := hey 1 _ rfl
  rw [hy1] at g1
  have p1 : DataW.trod enc Tryz.prog w base spare held m 3 [u1] = some y1 := by have this : DataW.trod enc Tryz.prog w base spare held m 3 (([u0, u1, u2].drop 1).take (Tryz.prog.cellsOf 3)) = some y1 := g1; rw [hc1] at this; exact this
  obtain ⟨y2, hy2⟩ := some_y 2 (by omega)
  have g2 := hey 2 _ rfl
  rw [hy2] at g2
  have p2 : DataW.trod enc Tryz.prog w base spare held m 3 [u2] = some y2 := by have this : DataW.trod enc Tryz.prog w base spare held m 3 (([u0, u1, u2].drop 2).take (Tryz.prog.cellsOf 3)) = some y2 := g2; rw [hc1] at this; exact this
  obtain ⟨x0, rfl, _, k0⟩ := lit_of p0
  obtain ⟨x1, rfl, _, k1⟩ := lit_of p1
  obtain ⟨x2, rfl, _, k2⟩ := lit_of p2
  exact ⟨x0, x1, x2, rfl, rfl, rfl, k0, k1, k2⟩
theorem quat_of {n : Nat} {u0 u1 u2 u3 : Value} {z : DataW H × List MemPlace} (h : DataW.trod enc Tryz.prog w base spare held n 28 [u0, u1, u2, u3] = some z) : ∃ x0 x1 x2 x3 : Int, u0 = .int .i64 x0 ∧ u1 = .int .i64 x1 ∧ u2 = .int .i64 x2 ∧ u3 = .int .i64 x3 ∧ (Lit.int .i64 x0).wf = true ∧ (Lit.int .i64 x1).wf = true ∧ (Lit.int .i64 x2).wf = true ∧ (Lit.int .i64 x3).wf = true := by
  have hc1 : Tryz.prog.cellsOf 3 = 1 := by kernel_rfl
  obtain ⟨ys, m, _, _, _, hyl, hey⟩ := DataW.trod_struct Tryz.underlying28 h
  have some_y : ∀ j, j < 4 → ∃ z, ys[j]? = some z := fun j hj => ⟨_, List.getElem?_eq_getElem (by rw [hyl]; exact hj)⟩
  obtain ⟨y0, hy0⟩ := some_y 0 (by omega)
  have g0 := hey 0 _ rfl
  rw [hy0] at g0
  have p0 : DataW.trod enc Tryz.prog w base spare held m 3 [u0] = some y0 := by have this : DataW.trod enc Tryz.prog w base spare held m 3 (([u0, u1, u2, u3].drop 0).take (Tryz.prog.cellsOf 3)) = some y0 := g0; rw [hc1] at this; exact this
  obtain ⟨y1, hy1⟩ := some_y 1 (by omega)
  have g1 := hey 1 _ rfl
  rw [hy1] at g1
  have p1 : DataW.trod enc Tryz.prog w base spare held m 3 [u1] = some y1 := by have this : DataW.trod enc Tryz.prog w base spare held m 3 (([u0, u1, u2, u3].drop 1).take (Tryz.prog.cellsOf 3)) = some y1 := g1; rw [hc1] at this; exact this
  obtain ⟨y2, hy2⟩ := some_y 2 (by omega)
  have g2 := hey 2 _ rfl
  rw [hy2] at g2
  have p2 : DataW.trod enc Tryz.prog w base spare held m 3 [u2] = some y2 := by have this : DataW.trod enc Tryz.prog w base spare held m 3 (([u0, u1, u2, u3].drop 2).take (Tryz.prog.cellsOf 3)) = some y2 := g2; rw [hc1] at this; exact this
  obtain ⟨y3, hy3⟩ := some_y 3 (by omega)
  have g3 := hey 3 _ rfl
  rw [hy3] at g3
  have p3 : DataW.trod enc Tryz.prog w base spare held m 3 [u3] = some y3 := by have this : DataW.trod enc Tryz.prog w base spare held m 3 (([u0, u1, u2, u3].drop 3).take (Tryz.prog.cellsOf 3)) = some y3 := g3; rw [hc1] at this; exact this
  obtain ⟨x0, rfl, _, k0⟩ := lit_of p0
  obtain ⟨x1, rfl, _, k1⟩ := lit_of p1
  obtain ⟨x2, rfl, _, k2⟩ := lit_of p2
  obtain ⟨x3, rfl, _, k3⟩ := lit_of p3
  exact ⟨x0, x1, x2, x3, rfl, rfl, rfl, rfl, k0, k1, k2, k3⟩
set_option maxRecDepth 100000 in
theorem open_pose {r : Reach} {b0 : Nat} {v : Value} {d : DataW H} {p : List MemPlace} (hv : Value.okWide Tryz.prog w r b0 30 v) (h : DataW.Trod enc Tryz.prog w base spare held 30 v d p) :
    ∃ x0 x1 x2 x3 x4 x5 x6 : Int, v = .agg #[.int .i64 x0, .int .i64 x1, .int .i64 x2, .int .i64 x3, .int .i64 x4, .int .i64 x5, .int .i64 x6] ∧ (Lit.int .i64 x0).wf = true ∧ (Lit.int .i64 x1).wf = true ∧ (Lit.int .i64 x2).wf = true ∧ (Lit.int .i64 x3).wf = true ∧ (Lit.int .i64 x4).wf = true ∧ (Lit.int .i64 x5).wf = true ∧ (Lit.int .i64 x6).wf = true := by
  obtain ⟨cs, rfl, hsz⟩ := okWide_struct Tryz.underlying30 hv
  have hC : Tryz.prog.cellsOf 30 = 7 := by kernel_rfl
  obtain ⟨u0, u1, u2, u3, u4, u5, u6, rfl⟩ := arr7q (hsz.trans hC)
  obtain ⟨fuel, hf⟩ := h
  have hf2 : DataW.trod enc Tryz.prog w base spare held fuel 30 [u0, u1, u2, u3, u4, u5, u6] = some (d, p) := hf
  obtain ⟨xs, n, _, _, _, hxl, hel⟩ := DataW.trod_struct Tryz.underlying30 hf2
  have hc3 : Tryz.prog.cellsOf 26 = 3 := by kernel_rfl
  have hc4 : Tryz.prog.cellsOf 28 = 4 := by kernel_rfl
  have some_of : ∀ j, j < 2 → ∃ z, xs[j]? = some z := fun j hj => ⟨_, List.getElem?_eq_getElem (by rw [hxl]; exact hj)⟩
  obtain ⟨z0, hz0⟩ := some_of 0 (by omega)
  obtain ⟨z1, hz1⟩ := some_of 1 (by omega)
  have e0 := hel 0 _ rfl
  have e1 := hel 1 _ rfl
  rw [hz0] at e0
  rw [hz1] at e1
  have q0 : DataW.trod enc Tryz.prog w base spare held n 26 [u0, u1, u2] = some z0 := by have this : DataW.trod enc Tryz.prog w base spare held n 26 (([u0, u1, u2, u3, u4, u5, u6].drop 0).take (Tryz.prog.cellsOf 26)) = some z0 := e0; rw [hc3] at this; exact this
  have q1 : DataW.trod enc Tryz.prog w base spare held n 28 [u3, u4, u5, u6] = some z1 := by have this : DataW.trod enc Tryz.prog w base spare held n 28 (([u0, u1, u2, u3, u4, u5, u6].drop 3).take (Tryz.prog.cellsOf 28)) = some z1 := e1; rw [hc4] at this; exact this
  obtain ⟨x0, x1, x2, rfl, rfl, rfl, k0, k1, k2⟩ := vec_of q0
  obtain ⟨x3, x4, x5, x6, rfl, rfl, rfl, rfl, k3, k4, k5, k6⟩ := quat_of q1
  exact ⟨x0, x1, x2, x3, x4, x5, x6, rfl, k0, k1, k2, k3, k4, k5, k6⟩
end
end Go.Proofs.YtompnibhfdkkjaaGreat
namespace Go.Proofs.YtompnibhfdkkjaaGreat
open Go.ChangeShapes Go.WideShapes Go.Deep Go.Joins
set_option linter.unusedVariables false

theorem points_of {H : Type} {enc : TypeId × Value → H} {W : World} {base : Nat} {spare : Nat → Bool} {held : Bool} {a : Option Addr} {len cap fuel : Nat} {x : DataW H × List MemPlace}
    (h : DataW.trod enc Tryz.prog W base spare held fuel 22 [.slice a len cap] = some x) : ∃ L : List Pt, L.length = len ∧ Lies W (.slice a len cap) L ∧ ∀ p ∈ L, p.fits := by
  rcases Deep.open_slice Tryz.underlying22 h with ⟨hcs, _⟩ | ⟨y, l, c, m, n, D, Pl, hcs, _, hl, hm, hmm, _, hx⟩
  · simp at hcs
    obtain ⟨rfl, rfl, rfl⟩ := hcs
    exact ⟨[], rfl, ⟨none, 0, rfl, by simp, by omega, fun i hi => by simp at hi⟩, by simp⟩
  · simp at hcs
    obtain ⟨rfl, rfl, rfl⟩ := hcs
    unfold maxLen at hm
    have hlm : len ≤ m := by rw [hmm]; split <;> omega
    have hc3 : Tryz.prog.cellsOf 31 = 3 := by kernel_rfl
    have hc1 : Tryz.prog.cellsOf 3 = 1 := by kernel_rfl
    have each : ∀ i, i < len → ∃ q : Pt, (W.cell? ((y.add (i * 3)).add 0) = some (.int .i64 q.x) ∧ W.cell? ((y.add (i * 3)).add 1) = some (.int .i64 q.y) ∧ W.cell? ((y.add (i * 3)).add 2) = some (.int .i64 q.z)) ∧ q.fits := by
      intro i hi
      obtain ⟨cs', hcells, ht⟩ := hx i (by omega)
      rw [hc3] at hcells
      obtain ⟨_, hlen, hcell⟩ := World.cells?_some hcells
      obtain ⟨xs, k, _, _, _, hxl, hel⟩ := DataW.trod_struct Tryz.underlying31 ht
      have get : ∀ (v : Value) (j : Nat), ((cs'.drop j).take 1) = [v] → cs'[j]? = some v := fun v j h => by
        have h2 : ((cs'.drop j).take 1)[0]? = some v := by rw [h]; rfl
        simpa [List.getElem?_take, List.getElem?_drop] using h2
      have some_of : ∀ j, j < 3 → ∃ z, xs[j]? = some z := fun j hj => ⟨_, List.getElem?_eq_getElem (by rw [hxl]; exact hj)⟩
      have e0 := hel 0 _ rfl
      have e1 := hel 1 _ rfl
      have e2 := hel 2 _ rfl
      obtain ⟨z0, hz0⟩ := some_of 0 (by omega)
      obtain ⟨z1, hz1⟩ := some_of 1 (by omega)
      obtain ⟨z2, hz2⟩ := some_of 2 (by omega)
      rw [hz0] at e0
      rw [hz1] at e1
      rw [hz2] at e2
      obtain ⟨p, hp, _, wp⟩ := DataW.trod_int Tryz.underlying3 e0
      obtain ⟨q, hq, _, wq⟩ := DataW.trod_int Tryz.underlying3 e1
      obtain ⟨r, hr, _, wr⟩ := DataW.trod_int Tryz.underlying3 e2
      have hp2 : (cs'.drop 0).take (Tryz.prog.cellsOf 3) = [.int .i64 p] := hp
      have hq2 : (cs'.drop 1).take (Tryz.prog.cellsOf 3) = [.int .i64 q] := hq
      have hr2 : (cs'.drop 2).take (Tryz.prog.cellsOf 3) = [.int .i64 r] := hr
      rw [hc1] at hp2 hq2 hr2
      have b0 := bounds_i64 wp
      have b1 := bounds_i64 wq
      have b2 := bounds_i64 wr
      exact ⟨⟨p, q, r⟩, ⟨(hcell 0 (by omega)).trans (get _ 0 hp2), (hcell 1 (by omega)).trans (get _ 1 hq2), (hcell 2 (by omega)).trans (get _ 2 hr2)⟩, ⟨by dsimp only; omega, by dsimp only; omega⟩, ⟨by dsimp only; omega, by dsimp only; omega⟩, ⟨by dsimp only; omega, by dsimp only; omega⟩⟩
    have ch : ∃ (l : Nat → Pt), ∀ i, i < len → (W.cell? ((y.add (i * 3)).add 0) = some (.int .i64 (l i).x) ∧ W.cell? ((y.add (i * 3)).add 1) = some (.int .i64 (l i).y) ∧ W.cell? ((y.add (i * 3)).add 2) = some (.int .i64 (l i).z)) ∧ (l i).fits := by
      refine ⟨fun i => if h : i < len then (each i h).choose else default, fun i hi => ?_⟩
      simp only [dif_pos hi]
      exact (each i hi).choose_spec
    obtain ⟨l, hall⟩ := ch
    have hln : ((List.range len).map l).length = len := by simp
    have hpt : ∀ i, i < len → pt ((List.range len).map l) i = l i := fun i hi => by unfold pt; simp [hi]
    refine ⟨(List.range len).map l, hln, ⟨some y, cap, by rw [hln], by rw [hln]; exact hl, by omega, fun i hi => ?_⟩, fun p hp => ?_⟩
    · rw [hln] at hi
      obtain ⟨b, off, spot⟩ := y
      obtain ⟨⟨h0, h1, h2⟩, _⟩ := hall i hi
      have hs : spot = none := by simpa [Addr.add] using World.cell?_spot (hall 0 (by omega)).1.1
      subst hs
      have ad : ∀ i j, ((⟨b, off, none⟩ : Addr).add (i * 3)).add j = ⟨b, off + i * 3 + j, none⟩ := fun i j => by
        unfold Addr.add
        split <;> split <;> simp_all
      rw [ad] at h0 h1 h2
      exact ⟨b, off, rfl, by rw [hpt i hi]; exact h0, by rw [hpt i hi]; exact h1, by rw [hpt i hi]; exact h2⟩
    · rw [List.mem_map] at hp
      obtain ⟨i, hi, rfl⟩ := hp
      exact (hall i (by simpa using hi)).2
end Go.Proofs.YtompnibhfdkkjaaGreat
namespace Go.Proofs.YtompnibhfdkkjaaGreat
open Go.ChangeShapes Go.WideShapes Go.Deep Go.Joins
set_option linter.unusedVariables false

theorem slice_of {H : Type} {enc : TypeId × Value → H} {W : World} {base : Nat} {spare : Nat → Bool} {held : Bool} {fuel : Nat} {u : Value} {x : DataW H × List MemPlace}
    (h : DataW.trod enc Tryz.prog W base spare held fuel 22 [u] = some x) : ∃ a L cap, u = .slice a (List.length (α := Pt) L) cap ∧ Lies W u L := by
  have hs : ∃ a len cap, u = .slice a len cap := by
    rcases Deep.open_slice Tryz.underlying22 h with ⟨hcs, _⟩ | ⟨y, l, c, mm, nn, D, Pl, hcs, _⟩
    · simp at hcs; exact ⟨_, _, _, hcs⟩
    · simp at hcs; exact ⟨_, _, _, hcs⟩
  obtain ⟨a, len, cap, rfl⟩ := hs
  obtain ⟨L, rfl, hL, hF⟩ := points_of h
  exact ⟨a, L, cap, rfl, hL⟩
theorem slice_len {H : Type} {enc : TypeId × Value → H} {W : World} {base : Nat} {spare : Nat → Bool} {held : Bool} {fuel : Nat} {a : Option Addr} {len cap : Nat} {x : DataW H × List MemPlace}
    (h : DataW.trod enc Tryz.prog W base spare held fuel 22 [.slice a len cap] = some x) (hw : ∀ n ∈ x.1.weights Tryz.prog 22, n ≤ reachBytes) : len < 140737488355328 := by
  have hr := reachBytes_lt
  rcases Deep.open_slice Tryz.underlying22 h with ⟨hcs, _⟩ | ⟨y, l, c, mm, nn, D, Pl, hcs, _, _, _, _, hx, _⟩
  · simp at hcs; omega
  · simp at hcs
    obtain ⟨rfl, rfl, rfl⟩ := hcs
    rw [hx] at hw
    have hb : Tryz.prog.bytesOf 31 = 24 := by kernel_rfl
    have := hw ((((List.range len).map D).length + ((List.range (mm - len)).map fun j => D (len + j)).length) * Tryz.prog.bytesOf 31) (by simp [DataW.weights, Tryz.underlying22])
    rw [hb] at this
    simp only [List.length_map, List.length_range] at this
    omega
theorem arr4c {cs : Array Value} (h : cs.size = 4) : ∃ a b c d, cs = #[a, b, c, d] := by
  obtain ⟨l⟩ := cs
  simp at h
  match l, h with
  | [a, b, c, d], _ => exact ⟨a, b, c, d, rfl⟩
set_option maxRecDepth 100000 in
theorem open_core2 {H : Type} {enc : TypeId × Value → H} {w : World} {base : Nat} {spare : Nat → Bool} {held : Bool} {r : Reach} {b0 : Nat} {v : Value} {d : DataW H} {p : List MemPlace} (hv : Value.okWide Tryz.prog w r b0 24 v) (h : DataW.Trod enc Tryz.prog w base spare held 24 v d p) (hw : ∀ n ∈ d.weights Tryz.prog 24, n ≤ reachBytes) :
    ∃ (a1 : Option Addr) (L1 : List Pt) (c1 : Nat) (a2 : Option Addr) (L2 : List Pt) (c2 : Nat) (a3 : Option Addr) (L3 : List Pt) (c3 : Nat) (rr : Int), v = .agg #[.slice a1 L1.length c1, .slice a2 L2.length c2, .slice a3 L3.length c3, .int .i64 rr] ∧ Lies w (.slice a1 L1.length c1) L1 ∧ Lies w (.slice a2 L2.length c2) L2 ∧ Lies w (.slice a3 L3.length c3) L3 ∧ L1.length < 140737488355328 ∧ L2.length < 140737488355328 ∧ L3.length < 140737488355328 := by
  obtain ⟨cs, rfl, hsz⟩ := okWide_struct Tryz.underlying24 hv
  have hC : Tryz.prog.cellsOf 24 = 4 := by kernel_rfl
  obtain ⟨u0, u1, u2, u3, rfl⟩ := arr4c (hsz.trans hC)
  obtain ⟨fuel, hf⟩ := h
  have hf2 : DataW.trod enc Tryz.prog w base spare held fuel 24 [u0, u1, u2, u3] = some (d, p) := hf
  obtain ⟨xs, n, _, hxe, _, hxl, hel⟩ := DataW.trod_struct Tryz.underlying24 hf2
  have hc1 : Tryz.prog.cellsOf 3 = 1 := by kernel_rfl
  have hcs : Tryz.prog.cellsOf 22 = 1 := by kernel_rfl
  have some_of : ∀ j, j < 4 → ∃ z, xs[j]? = some z := fun j hj => ⟨_, List.getElem?_eq_getElem (by rw [hxl]; exact hj)⟩
  obtain ⟨z0, hz0⟩ := some_of 0 (by omega)
  obtain ⟨z1, hz1⟩ := some_of 1 (by omega)
  obtain ⟨z2, hz2⟩ := some_of 2 (by omega)
  obtain ⟨z3, hz3⟩ := some_of 3 (by omega)
  have hwj : ∀ j z, j < 3 → xs[j]? = some z → ∀ n ∈ z.1.weights Tryz.prog 22, n ≤ reachBytes := fun j z hj hz n hn => by
    refine hw n ?_
    have hd : d = .agg (xs.map (·.1)) := congrArg Prod.fst hxe
    rw [hd]
    unfold DataW.weights
    rw [Tryz.underlying24]
    refine DataW.weights_mem_each (j := j) (t := 22) (d := z.1) ?_ (by simp [hz]) n hn
    match j, hj with
    | 0, _ => rfl
    | 1, _ => rfl
    | 2, _ => rfl
  have e0 := hel 0 _ rfl
  have e1 := hel 1 _ rfl
  have e2 := hel 2 _ rfl
  have e3 := hel 3 _ rfl
  rw [hz0] at e0
  rw [hz1] at e1
  rw [hz2] at e2
  rw [hz3] at e3
  have q0 : DataW.trod enc Tryz.prog w base spare held n 22 [u0] = some z0 := by have this : DataW.trod enc Tryz.prog w base spare held n 22 (([u0, u1, u2, u3].drop 0).take (Tryz.prog.cellsOf 22)) = some z0 := e0; rw [hcs] at this; exact this
  have q1 : DataW.trod enc Tryz.prog w base spare held n 22 [u1] = some z1 := by have this : DataW.trod enc Tryz.prog w base spare held n 22 (([u0, u1, u2, u3].drop 1).take (Tryz.prog.cellsOf 22)) = some z1 := e1; rw [hcs] at this; exact this
  have q2 : DataW.trod enc Tryz.prog w base spare held n 22 [u2] = some z2 := by have this : DataW.trod enc Tryz.prog w base spare held n 22 (([u0, u1, u2, u3].drop 2).take (Tryz.prog.cellsOf 22)) = some z2 := e2; rw [hcs] at this; exact this
  have q3 : DataW.trod enc Tryz.prog w base spare held n 3 [u3] = some z3 := by have this : DataW.trod enc Tryz.prog w base spare held n 3 (([u0, u1, u2, u3].drop 3).take (Tryz.prog.cellsOf 3)) = some z3 := e3; rw [hc1] at this; exact this
  obtain ⟨a1, L1, c1, rfl, k1⟩ := slice_of q0
  obtain ⟨a2, L2, c2, rfl, k2⟩ := slice_of q1
  obtain ⟨a3, L3, c3, rfl, k3⟩ := slice_of q2
  obtain ⟨rr, rfl, _, wr⟩ := lit_of q3
  exact ⟨a1, L1, c1, a2, L2, c2, a3, L3, c3, rr, rfl, k1, k2, k3, slice_len q0 (hwj 0 _ (by omega) hz0), slice_len q1 (hwj 1 _ (by omega) hz1), slice_len q2 (hwj 2 _ (by omega) hz2)⟩
end Go.Proofs.YtompnibhfdkkjaaGreat
