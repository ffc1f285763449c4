/- Arguments of layer 19's statements, opened: lists whose elements may hold lists. -/
import Derived.Test.YtbbmjfaflcbimaaEvN
import Derived.Test.YtbbmjfaflcbimaaRows
import Derived.Deep.Slices
import Derived.Deep.Grids
import Derived.OpenShut
import Derived.ShutString
import Derived.ChangeOld
import Derived.SizedLaws
namespace Go.Proofs.Ytbbmjfaflcbimaa
open Go.ChangeShapes Go.WideShapes Go.Deep Go.Joins Go.RowKit Go.Shelf
set_option linter.unusedVariables false

theorem zchoose {α : Type} (P : Nat → α → Prop) : ∀ (n : Nat), (∀ i, i < n → ∃ z, P i z) → ∃ L : List α, L.length = n ∧ ∀ i, i < n → ∃ z, L[i]? = some z ∧ P i z
  | 0, _ => ⟨[], rfl, fun i hi => absurd hi (by omega)⟩
  | n + 1, h => by
    obtain ⟨L, hl, hL⟩ := zchoose P n (fun i hi => h i (by omega))
    obtain ⟨z, hz⟩ := h n (by omega)
    refine ⟨L ++ [z], by simp [hl], fun i hi => ?_⟩
    by_cases e : i < n
    · obtain ⟨y, hy, py⟩ := hL i e
      exact ⟨y, by rw [List.getElem?_append_left (by omega)]; exact hy, py⟩
    · have : i = n := by omega
      subst this
      exact ⟨z, by rw [List.getElem?_append_right (by omega), hl]; simp, hz⟩
theorem mem_weights {H : Type} {e : TypeId} {d : DataW H} : ∀ {l : List (DataW H)}, d ∈ l → ∀ n ∈ d.weights Try.prog e, n ∈ DataW.weightsAll Try.prog e l
  | [], h, _, _ => by cases h
  | x :: r, h, n, hn => by
    rw [DataW.weightsAll]
    rcases List.mem_cons.1 h with rfl | h
    · exact List.mem_append_left _ hn
    · exact List.mem_append_right _ (mem_weights h n hn)
section
variable {H : Type} {enc : TypeId × Value → H} {W : World} {base : Nat} {spare : Nat → Bool} {held : Bool}
/-- A list whose elements are read by a law of their own. -/
theorem open_list {α : Type} {t e : TypeId} (n : Nat) (ht : Try.prog.underlying t = some (.slice e)) (hn : Try.prog.cellsOf e = n) (hn0 : 0 < n) (P : Nat → Prop) (Q : α → List Value → Prop)
    (each : ∀ fuel cs x, cs.length = n → DataW.trod enc Try.prog W base spare held fuel e cs = some x → (∀ m ∈ x.1.weights Try.prog e, P m) → ∃ q, Q q cs)
    {u : Value} {fuel : Nat} {x : DataW H × List MemPlace} (h : DataW.trod enc Try.prog W base spare held fuel t [u] = some x) (hP : ∀ m ∈ x.1.weights Try.prog t, P m) :
    ∃ (o : Option Addr) (L : List α) (cap : Nat), u = .slice o L.length cap ∧ L.length ≤ cap ∧ cap ≤ 9223372036854775807 ∧ (L ≠ [] → P (L.length * Try.prog.bytesOf e) ∨ ∃ m, L.length * Try.prog.bytesOf e ≤ m ∧ P m) ∧ ∀ i, i < L.length → ∃ q cs g off, L[i]? = some q ∧ Q q cs ∧ cs.length = n ∧ o = some ⟨g, off, none⟩ ∧ ∀ j v, cs[j]? = some v → W.cell? ⟨g, off + i * n + j, none⟩ = some v := by
  rcases Deep.open_slice ht h with ⟨hcs, _⟩ | ⟨y, len, cap, m, k, D, Pl, hcs, _, hl, hm, hmm, hxe, hx⟩
  · simp at hcs
    subst hcs
    exact ⟨none, [], 0, rfl, by simp, by omega, fun h => absurd rfl h, fun i hi => by simp at hi⟩
  · simp at hcs
    subst hcs
    unfold maxLen at hm
    have hlm : len ≤ m := by rw [hmm]; split <;> omega
    have hw : ∀ i, i < len → ∀ q ∈ (D i).weights Try.prog e, P q := fun i hi q hq => by
      refine hP q ?_
      rw [hxe]
      simp only [DataW.weights, ht]
      refine List.mem_cons_of_mem _ (List.mem_append_left _ (mem_weights ?_ q hq))
      exact List.mem_map.2 ⟨i, List.mem_range.2 hi, rfl⟩
    obtain ⟨L, hL, hLa⟩ := zchoose (fun i (q : α) => ∃ cs, Q q cs ∧ cs.length = n ∧ ∀ j v, cs[j]? = some v → W.cell? ((y.add (i * n)).add j) = some v) len (fun i hi => by
      obtain ⟨cs', hcells, ht'⟩ := hx i (by omega)
      rw [hn] at hcells
      obtain ⟨_, hlen, hcell⟩ := World.cells?_some hcells
      obtain ⟨q, hq⟩ := each _ cs' _ hlen ht' (hw i hi)
      exact ⟨q, cs', hq, hlen, fun j v hj => (hcell j (by have := (List.getElem?_eq_some_iff.1 hj).1; omega)).trans hj⟩)
    subst hL
    refine ⟨some y, L, cap, rfl, hl, by omega, fun _ => Or.inr ⟨(L.length + (m - L.length)) * Try.prog.bytesOf e, Nat.mul_le_mul_right _ (by omega), hP _ (by rw [hxe]; simp [DataW.weights, ht])⟩, fun i hi => ?_⟩
    obtain ⟨q, hq, cs, h1, h2, h3⟩ := hLa i hi
    obtain ⟨b, off, spot⟩ := y
    have hs : spot = none := by
      obtain ⟨q', _, cs', _, l', h3'⟩ := hLa 0 (by omega)
      have h0 : 0 < cs'.length := by omega
      have := World.cell?_spot (h3' 0 _ (List.getElem?_eq_getElem h0))
      simpa [Addr.add] using this
    subst hs
    refine ⟨q, cs, b, off, hq, h1, h2, rfl, fun j v hj => ?_⟩
    have := h3 j v hj
    rw [z_add, z_add] at this
    exact this
theorem zlit {fuel : Nat} {t : TypeId} (ht : Try.prog.underlying t = some (.int .i64)) {cs : List Value} {x : DataW H × List MemPlace} (h : DataW.trod enc Try.prog W base spare held fuel t cs = some x) : ∃ z : Int, cs = [.int .i64 z] ∧ -9223372036854775808 ≤ z ∧ z ≤ 9223372036854775807 := by
  obtain ⟨z, e, _, w⟩ := DataW.trod_int ht h
  have := bounds_i64 w
  exact ⟨z, e, by omega, by omega⟩
theorem list1 {l : List Value} (h : l.length = 1) : ∃ a, l = [a] := by
  match l, h with
  | [a], _ => exact ⟨a, rfl⟩
theorem list2 {l : List Value} (h : l.length = 2) : ∃ a b, l = [a, b] := by
  match l, h with
  | [a, b], _ => exact ⟨a, b, rfl⟩
theorem list3 {l : List Value} (h : l.length = 3) : ∃ a b c, l = [a, b, c] := by
  match l, h with
  | [a, b, c], _ => exact ⟨a, b, c, rfl⟩
theorem event_of {fuel : Nat} {cs : List Value} {x : DataW H × List MemPlace} (hl : cs.length = 3) (h : DataW.trod enc Try.prog W base spare held fuel 37 cs = some x) : ∃ q : Ev, cs = [.int .i64 q.k, .int .i64 q.a, .int .i64 q.b] := by
  obtain ⟨u0, u1, u2, rfl⟩ := list3 hl
  obtain ⟨xs, n, _, _, _, hxl, hel⟩ := DataW.trod_struct Try.underlying37 h
  have hc1 : Try.prog.cellsOf 3 = 1 := by kernel_rfl
  have hch : Try.prog.cellsOf 35 = 1 := by kernel_rfl
  have some_of : ∀ j, j < 3 → ∃ z, xs[j]? = some z := fun j hj => ⟨_, List.getElem?_eq_getElem (by rw [hxl]; exact hj)⟩
  obtain ⟨z0, hz0⟩ := some_of 0 (by omega)
  obtain ⟨z1, hz1⟩ := some_of 1 (by omega)
  obtain ⟨z2, hz2⟩ := some_of 2 (by omega)
  have e0 := hel 0 _ rfl
  have e1 := hel 1 _ rfl
  have e2 := hel 2 _ rfl
  rw [hz0] at e0
  rw [hz1] at e1
  rw [hz2] at e2
  have q0 : DataW.trod enc Try.prog W base spare held n 3 [u0] = some z0 := by have this : DataW.trod enc Try.prog W base spare held n 3 (([u0, u1, u2].drop 0).take (Try.prog.cellsOf 3)) = some z0 := e0; rw [hc1] at this; exact this
  have q1 : DataW.trod enc Try.prog W base spare held n 35 [u1] = some z1 := by have this : DataW.trod enc Try.prog W base spare held n 35 (([u0, u1, u2].drop 1).take (Try.prog.cellsOf 35)) = some z1 := e1; rw [hch] at this; exact this
  have q2 : DataW.trod enc Try.prog W base spare held n 35 [u2] = some z2 := by have this : DataW.trod enc Try.prog W base spare held n 35 (([u0, u1, u2].drop 2).take (Try.prog.cellsOf 35)) = some z2 := e2; rw [hch] at this; exact this
  obtain ⟨k, h0, _⟩ := zlit Try.underlying3 q0
  obtain ⟨a, h1, _⟩ := zlit Try.underlying35 q1
  obtain ⟨b, h2, _⟩ := zlit Try.underlying35 q2
  simp only [List.cons.injEq, and_true] at h0 h1 h2
  exact ⟨⟨k, a, b⟩, by rw [h0, h1, h2]⟩
theorem events_of {u : Value} {fuel : Nat} {x : DataW H × List MemPlace} (h : DataW.trod enc Try.prog W base spare held fuel 31 [u] = some x) : ∃ (o : Option Addr) (L : List Ev) (c : Nat), u = .slice o L.length c ∧ LiesE W (.slice o L.length c) L ∧ ((∀ m ∈ x.1.weights Try.prog 31, m ≤ reachBytes) → L.length < 140737488355328) := by
  obtain ⟨o, L, c, e, h1, h2, h3, h4⟩ := open_list (α := Ev) 3 Try.underlying31 (by kernel_rfl) (by omega) (fun m => m ∈ x.1.weights Try.prog 31) (fun q cs => cs = [.int .i64 q.k, .int .i64 q.a, .int .i64 q.b]) (fun fuel cs x hl ht _ => event_of hl ht) h (fun m hm => hm)
  refine ⟨o, L, c, e, ⟨o, c, rfl, h1, h2, fun i hi => ?_⟩, fun hw => ?_⟩
  · obtain ⟨q, cs, g, off, hq, rfl, _, ho, hc⟩ := h4 i hi
    have eq : evAt L i = q := by unfold evAt; rw [hq]; rfl
    rw [eq]
    exact ⟨g, off, ho, hc 0 _ rfl, hc 1 _ rfl, hc 2 _ rfl⟩
  · have hr := reachBytes_lt
    by_cases hL : L = []
    · subst hL; simp
    · have hb : Try.prog.bytesOf 37 = 24 := by kernel_rfl
      rcases h3 hL with h3 | ⟨m, hm, h3⟩
      · have := hw _ h3; rw [hb] at this; omega
      · have := hw _ h3; rw [hb] at hm; omega
end
/-- Lists of lists of events that are read. -/
structure LiesLL (W : World) (v : Value) (L : List (List Ev)) : Prop where
  form : ∃ o cap, v = .slice o L.length cap ∧ L.length ≤ cap ∧ cap ≤ 9223372036854775807 ∧ ∀ i, i < L.length → ∃ g off o2 c2 l, o = some ⟨g, off, none⟩ ∧ L[i]? = some l ∧ W.cell? ⟨g, off + i, none⟩ = some (.slice o2 l.length c2) ∧ LiesE W (.slice o2 l.length c2) l
theorem LiesLL.below {w W : World} {v : Value} {L : List (List Ev)} (h : LiesLL w v L) (hb : Below w.heap.size w W) : LiesLL W v L := by
  obtain ⟨o, cap, e, h1, h2, h3⟩ := h.form
  refine ⟨o, cap, e, h1, h2, fun i hi => ?_⟩
  obtain ⟨g, off, o2, c2, l, e, hl, hc, hE⟩ := h3 i hi
  exact ⟨g, off, o2, c2, l, e, hl, z_after hb hc, hE.below hb⟩
set_option maxRecDepth 100000 in
theorem open_rows19 {H : Type} {enc : TypeId × Value → H} {w : World} {base : Nat} {spare : Nat → Bool} {held : Bool} {r : Reach} {b0 : Nat} {v : Value} {d : DataW H} {p : List MemPlace} (hv : Value.okWide Try.prog w r b0 47 v) (h : DataW.Trod enc Try.prog w base spare held 47 v d p) (hw : ∀ n ∈ d.weights Try.prog 47, n ≤ reachBytes) :
    ∃ (o : Option Addr) (L : List (List Ev)) (c : Nat), v = .slice o L.length c ∧ LiesLL w (.slice o L.length c) L ∧ ∀ l ∈ L, l.length < 140737488355328 := by
  obtain ⟨a, len, cap, rfl⟩ := okWide_slice Try.underlying47 hv
  obtain ⟨fuel, hf⟩ := h
  obtain ⟨o, L, c, e, h1, h2, _, h4⟩ := open_list (α := List Ev) 1 Try.underlying47 (by kernel_rfl) (by omega) (fun m => m ≤ reachBytes) (fun l cs => ∃ o2 c2, cs = [.slice o2 l.length c2] ∧ LiesE w (.slice o2 l.length c2) l ∧ l.length < 140737488355328)
    (fun fuel cs x hl ht hP => by
      obtain ⟨u, rfl⟩ := list1 hl
      obtain ⟨o2, l, c2, rfl, hE, hB⟩ := events_of ht
      exact ⟨l, o2, c2, rfl, hE, hB hP⟩) (u := .slice a len cap) hf hw
  refine ⟨o, L, c, e, ⟨o, c, rfl, h1, h2, fun i hi => ?_⟩, fun l hl => ?_⟩
  · obtain ⟨q, cs, g, off, hq, ⟨o2, c2, rfl, hE, _⟩, _, ho, hc⟩ := h4 i hi
    have := hc 0 _ rfl
    rw [Nat.mul_one] at this
    exact ⟨g, off, o2, c2, q, ho, hq, this, hE⟩
  · obtain ⟨i, hi, e⟩ := List.mem_iff_getElem.1 hl
    obtain ⟨q, cs, g, off, hq, ⟨o2, c2, rfl, hE, hb⟩, _⟩ := h4 i hi
    rw [List.getElem?_eq_getElem hi] at hq
    injection hq with hq
    rw [← e, hq]
    exact hb
/-- Numbers that are read. -/
structure LiesN (W : World) (v : Value) (L : List Int) : Prop where
  form : ∃ o cap, v = .slice o L.length cap ∧ L.length ≤ cap ∧ cap ≤ 9223372036854775807 ∧ ∀ i, i < L.length → ∃ g off z, o = some ⟨g, off, none⟩ ∧ W.cell? ⟨g, off + i, none⟩ = some (.int .i64 z) ∧ -9223372036854775808 ≤ z ∧ z ≤ 9223372036854775807
theorem LiesN.below {w W : World} {v : Value} {L : List Int} (h : LiesN w v L) (hb : Below w.heap.size w W) : LiesN W v L := by
  obtain ⟨o, cap, e, h1, h2, h3⟩ := h.form
  refine ⟨o, cap, e, h1, h2, fun i hi => ?_⟩
  obtain ⟨g, off, z, e, hc, hz⟩ := h3 i hi
  exact ⟨g, off, z, e, z_after hb hc, hz⟩
set_option maxRecDepth 100000 in
theorem open_nums19 {H : Type} {enc : TypeId × Value → H} {w : World} {base : Nat} {spare : Nat → Bool} {held : Bool} {r : Reach} {b0 : Nat} {v : Value} {d : DataW H} {p : List MemPlace} (hv : Value.okWide Try.prog w r b0 48 v) (h : DataW.Trod enc Try.prog w base spare held 48 v d p) :
    ∃ (o : Option Addr) (L : List Int) (c : Nat), v = .slice o L.length c ∧ LiesN w (.slice o L.length c) L := by
  obtain ⟨a, len, cap, rfl⟩ := okWide_slice Try.underlying48 hv
  obtain ⟨fuel, hf⟩ := h
  obtain ⟨o, L, c, e, h1, h2, _, h4⟩ := open_list (α := Int) 1 Try.underlying48 (by kernel_rfl) (by omega) (fun m => True) (fun z cs => cs = [.int .i64 z] ∧ -9223372036854775808 ≤ z ∧ z ≤ 9223372036854775807)
    (fun fuel cs x hl ht hP => by
      obtain ⟨z, e, hz⟩ := zlit Try.underlying3 ht
      exact ⟨z, e, hz⟩) (u := .slice a len cap) hf (fun _ _ => trivial)
  refine ⟨o, L, c, e, ⟨o, c, rfl, h1, h2, fun i hi => ?_⟩⟩
  obtain ⟨q, cs, g, off, hq, ⟨rfl, hz⟩, _, ho, hc⟩ := h4 i hi
  have := hc 0 _ rfl
  rw [Nat.mul_one] at this
  exact ⟨g, off, q, ho, this, hz⟩
end Go.Proofs.Ytbbmjfaflcbimaa
