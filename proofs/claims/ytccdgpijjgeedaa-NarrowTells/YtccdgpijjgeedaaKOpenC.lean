/- A core among a law's arguments, opened with its three lists. -/
import Derived.Test.YtccdgpijjgeedaaKOpenP
import Derived.SizedLaws
namespace Go.Proofs.Ytccdgpijjgeedaa
open Go.ChangeShapes Go.WideShapes Go.Deep Go.Joins
set_option linter.unusedVariables false

theorem slice_of {H : Type} {enc : TypeId × Value → H} {W : World} {base : Nat} {spare : Nat → Bool} {held : Bool} {fuel : Nat} {u : Value} {x : DataW H × List MemPlace}
    (h : DataW.trod enc Try.prog W base spare held fuel 22 [u] = some x) : ∃ a L cap, u = .slice a (List.length (α := Pt) L) cap ∧ Lies W u L := by
  have hs : ∃ a len cap, u = .slice a len cap := by
    rcases Deep.open_slice Try.underlying22 h with ⟨hcs, _⟩ | ⟨y, l, c, mm, nn, D, Pl, hcs, _⟩
    · simp at hcs; exact ⟨_, _, _, hcs⟩
    · simp at hcs; exact ⟨_, _, _, hcs⟩
  obtain ⟨a, len, cap, rfl⟩ := hs
  obtain ⟨L, rfl, hL, hF⟩ := points_of h
  exact ⟨a, L, cap, rfl, hL⟩
theorem slice_len {H : Type} {enc : TypeId × Value → H} {W : World} {base : Nat} {spare : Nat → Bool} {held : Bool} {fuel : Nat} {a : Option Addr} {len cap : Nat} {x : DataW H × List MemPlace}
    (h : DataW.trod enc Try.prog W base spare held fuel 22 [.slice a len cap] = some x) (hw : ∀ n ∈ x.1.weights Try.prog 22, n ≤ reachBytes) : len < 140737488355328 := by
  have hr := reachBytes_lt
  rcases Deep.open_slice Try.underlying22 h with ⟨hcs, _⟩ | ⟨y, l, c, mm, nn, D, Pl, hcs, _, _, _, _, hx, _⟩
  · simp at hcs; omega
  · simp at hcs
    obtain ⟨rfl, rfl, rfl⟩ := hcs
    rw [hx] at hw
    have hb : Try.prog.bytesOf 26 = 24 := by kernel_rfl
    have := hw ((((List.range len).map D).length + ((List.range (mm - len)).map fun j => D (len + j)).length) * Try.prog.bytesOf 26) (by simp [DataW.weights, Try.underlying22])
    rw [hb] at this
    simp only [List.length_map, List.length_range] at this
    omega
theorem arr4c {cs : Array Value} (h : cs.size = 4) : ∃ a b c d, cs = #[a, b, c, d] := by
  obtain ⟨l⟩ := cs
  simp at h
  match l, h with
  | [a, b, c, d], _ => exact ⟨a, b, c, d, rfl⟩
set_option maxRecDepth 100000 in
theorem open_core {H : Type} {enc : TypeId × Value → H} {w : World} {base : Nat} {spare : Nat → Bool} {held : Bool} {r : Reach} {b0 : Nat} {v : Value} {d : DataW H} {p : List MemPlace} (hv : Value.okWide Try.prog w r b0 24 v) (h : DataW.Trod enc Try.prog w base spare held 24 v d p) :
    ∃ (a1 : Option Addr) (L1 : List Pt) (c1 : Nat) (a2 : Option Addr) (L2 : List Pt) (c2 : Nat) (a3 : Option Addr) (L3 : List Pt) (c3 : Nat) (rr : Int), v = .agg #[.slice a1 L1.length c1, .slice a2 L2.length c2, .slice a3 L3.length c3, .int .i64 rr] ∧ Lies w (.slice a1 L1.length c1) L1 ∧ Lies w (.slice a2 L2.length c2) L2 ∧ Lies w (.slice a3 L3.length c3) L3 := by
  obtain ⟨cs, rfl, hsz⟩ := okWide_struct Try.underlying24 hv
  have hC : Try.prog.cellsOf 24 = 4 := by kernel_rfl
  obtain ⟨u0, u1, u2, u3, rfl⟩ := arr4c (hsz.trans hC)
  obtain ⟨fuel, hf⟩ := h
  have hf2 : DataW.trod enc Try.prog w base spare held fuel 24 [u0, u1, u2, u3] = some (d, p) := hf
  obtain ⟨xs, n, _, _, _, hxl, hel⟩ := DataW.trod_struct Try.underlying24 hf2
  have hc1 : Try.prog.cellsOf 3 = 1 := by kernel_rfl
  have hcs : Try.prog.cellsOf 22 = 1 := by kernel_rfl
  have some_of : ∀ j, j < 4 → ∃ z, xs[j]? = some z := fun j hj => ⟨_, List.getElem?_eq_getElem (by rw [hxl]; exact hj)⟩
  obtain ⟨z0, hz0⟩ := some_of 0 (by omega)
  obtain ⟨z1, hz1⟩ := some_of 1 (by omega)
  obtain ⟨z2, hz2⟩ := some_of 2 (by omega)
  obtain ⟨z3, hz3⟩ := some_of 3 (by omega)
  have e0 := hel 0 _ rfl
  have e1 := hel 1 _ rfl
  have e2 := hel 2 _ rfl
  have e3 := hel 3 _ rfl
  rw [hz0] at e0
  rw [hz1] at e1
  rw [hz2] at e2
  rw [hz3] at e3
  have q0 : DataW.trod enc Try.prog w base spare held n 22 [u0] = some z0 := by have this : DataW.trod enc Try.prog w base spare held n 22 (([u0, u1, u2, u3].drop 0).take (Try.prog.cellsOf 22)) = some z0 := e0; rw [hcs] at this; exact this
  have q1 : DataW.trod enc Try.prog w base spare held n 22 [u1] = some z1 := by have this : DataW.trod enc Try.prog w base spare held n 22 (([u0, u1, u2, u3].drop 1).take (Try.prog.cellsOf 22)) = some z1 := e1; rw [hcs] at this; exact this
  have q2 : DataW.trod enc Try.prog w base spare held n 22 [u2] = some z2 := by have this : DataW.trod enc Try.prog w base spare held n 22 (([u0, u1, u2, u3].drop 2).take (Try.prog.cellsOf 22)) = some z2 := e2; rw [hcs] at this; exact this
  have q3 : DataW.trod enc Try.prog w base spare held n 3 [u3] = some z3 := by have this : DataW.trod enc Try.prog w base spare held n 3 (([u0, u1, u2, u3].drop 3).take (Try.prog.cellsOf 3)) = some z3 := e3; rw [hc1] at this; exact this
  obtain ⟨a1, L1, c1, rfl, k1⟩ := slice_of q0
  obtain ⟨a2, L2, c2, rfl, k2⟩ := slice_of q1
  obtain ⟨a3, L3, c3, rfl, k3⟩ := slice_of q2
  obtain ⟨rr, rfl, _, wr⟩ := lit_of q3
  exact ⟨a1, L1, c1, a2, L2, c2, a3, L3, c3, rr, rfl, k1, k2, k3⟩
set_option maxRecDepth 100000 in
theorem open_core2 {H : Type} {enc : TypeId × Value → H} {w : World} {base : Nat} {spare : Nat → Bool} {held : Bool} {r : Reach} {b0 : Nat} {v : Value} {d : DataW H} {p : List MemPlace} (hv : Value.okWide Try.prog w r b0 24 v) (h : DataW.Trod enc Try.prog w base spare held 24 v d p) (hw : ∀ n ∈ d.weights Try.prog 24, n ≤ reachBytes) :
    ∃ (a1 : Option Addr) (L1 : List Pt) (c1 : Nat) (a2 : Option Addr) (L2 : List Pt) (c2 : Nat) (a3 : Option Addr) (L3 : List Pt) (c3 : Nat) (rr : Int), v = .agg #[.slice a1 L1.length c1, .slice a2 L2.length c2, .slice a3 L3.length c3, .int .i64 rr] ∧ Lies w (.slice a1 L1.length c1) L1 ∧ Lies w (.slice a2 L2.length c2) L2 ∧ Lies w (.slice a3 L3.length c3) L3 ∧ L1.length < 140737488355328 ∧ L2.length < 140737488355328 ∧ L3.length < 140737488355328 := by
  obtain ⟨cs, rfl, hsz⟩ := okWide_struct Try.underlying24 hv
  have hC : Try.prog.cellsOf 24 = 4 := by kernel_rfl
  obtain ⟨u0, u1, u2, u3, rfl⟩ := arr4c (hsz.trans hC)
  obtain ⟨fuel, hf⟩ := h
  have hf2 : DataW.trod enc Try.prog w base spare held fuel 24 [u0, u1, u2, u3] = some (d, p) := hf
  obtain ⟨xs, n, _, hxe, _, hxl, hel⟩ := DataW.trod_struct Try.underlying24 hf2
  have hc1 : Try.prog.cellsOf 3 = 1 := by kernel_rfl
  have hcs : Try.prog.cellsOf 22 = 1 := by kernel_rfl
  have some_of : ∀ j, j < 4 → ∃ z, xs[j]? = some z := fun j hj => ⟨_, List.getElem?_eq_getElem (by rw [hxl]; exact hj)⟩
  obtain ⟨z0, hz0⟩ := some_of 0 (by omega)
  obtain ⟨z1, hz1⟩ := some_of 1 (by omega)
  obtain ⟨z2, hz2⟩ := some_of 2 (by omega)
  obtain ⟨z3, hz3⟩ := some_of 3 (by omega)
  have hwj : ∀ j z, j < 3 → xs[j]? = some z → ∀ n ∈ z.1.weights Try.prog 22, n ≤ reachBytes := fun j z hj hz n hn => by
    refine hw n ?_
    have hd : d = .agg (xs.map (·.1)) := congrArg Prod.fst hxe
    rw [hd]
    unfold DataW.weights
    rw [Try.underlying24]
    refine DataW.weights_mem_each (j := j) (t := 22) (d := z.1) ?_ (by simp [hz]) n hn
    match j, hj with
    | 0, _ => rfl
    | 1, _ => rfl
    | 2, _ => rfl
  have e0 := hel 0 _ rfl
  have e1 := hel 1 _ rfl
  have e2 := hel 2 _ rfl
  have e3 := hel 3 _ rfl
  rw [hz0] at e0
  rw [hz1] at e1
  rw [hz2] at e2
  rw [hz3] at e3
  have q0 : DataW.trod enc Try.prog w base spare held n 22 [u0] = some z0 := by have this : DataW.trod enc Try.prog w base spare held n 22 (([u0, u1, u2, u3].drop 0).take (Try.prog.cellsOf 22)) = some z0 := e0; rw [hcs] at this; exact this
  have q1 : DataW.trod enc Try.prog w base spare held n 22 [u1] = some z1 := by have this : DataW.trod enc Try.prog w base spare held n 22 (([u0, u1, u2, u3].drop 1).take (Try.prog.cellsOf 22)) = some z1 := e1; rw [hcs] at this; exact this
  have q2 : DataW.trod enc Try.prog w base spare held n 22 [u2] = some z2 := by have this : DataW.trod enc Try.prog w base spare held n 22 (([u0, u1, u2, u3].drop 2).take (Try.prog.cellsOf 22)) = some z2 := e2; rw [hcs] at this; exact this
  have q3 : DataW.trod enc Try.prog w base spare held n 3 [u3] = some z3 := by have this : DataW.trod enc Try.prog w base spare held n 3 (([u0, u1, u2, u3].drop 3).take (Try.prog.cellsOf 3)) = some z3 := e3; rw [hc1] at this; exact this
  obtain ⟨a1, L1, c1, rfl, k1⟩ := slice_of q0
  obtain ⟨a2, L2, c2, rfl, k2⟩ := slice_of q1
  obtain ⟨a3, L3, c3, rfl, k3⟩ := slice_of q2
  obtain ⟨rr, rfl, _, wr⟩ := lit_of q3
  exact ⟨a1, L1, c1, a2, L2, c2, a3, L3, c3, rr, rfl, k1, k2, k3, slice_len q0 (hwj 0 _ (by omega) hz0), slice_len q1 (hwj 1 _ (by omega) hz1), slice_len q2 (hwj 2 _ (by omega) hz2)⟩
end Go.Proofs.Ytccdgpijjgeedaa
