/- Numbers, bools and links among a law's arguments, opened. -/
import Derived.Test.YtdbiikllcplmgaaIsE
import Derived.Test.YtdbiikllcplmgaaRows
import Derived.Deep.Slices
import Derived.Deep.Grids
import Derived.OpenShut
import Derived.ShutString
import Derived.ChangeOld
namespace Go.Proofs.Ytdbiikllcplmgaa
open Go.ChangeShapes Go.WideShapes Go.Deep Go.Joins Go.RowKit Go.Shelf
set_option linter.unusedVariables false

theorem choose_list {α : Type} (P : Nat → α → Prop) : ∀ (n : Nat), (∀ i, i < n → ∃ z, P i z) → ∃ L : List α, L.length = n ∧ ∀ i, i < n → ∃ z, L[i]? = some z ∧ P i z
  | 0, _ => ⟨[], rfl, fun i hi => absurd hi (by omega)⟩
  | n + 1, h => by
    obtain ⟨L, hl, hL⟩ := choose_list P n (fun i hi => h i (by omega))
    obtain ⟨z, hz⟩ := h n (by omega)
    refine ⟨L ++ [z], by simp [hl], fun i hi => ?_⟩
    by_cases e : i < n
    · obtain ⟨y, hy, py⟩ := hL i e
      exact ⟨y, by rw [List.getElem?_append_left (by omega)]; exact hy, py⟩
    · have : i = n := by omega
      subst this
      exact ⟨z, by rw [List.getElem?_append_right (by omega), hl]; simp, hz⟩
theorem mem_at {α : Type} {L : List α} {z : α} (h : z ∈ L) : ∃ i, i < L.length ∧ L[i]? = some z := by
  obtain ⟨i, hi, e⟩ := List.mem_iff_getElem.1 h
  exact ⟨i, hi, by rw [List.getElem?_eq_getElem hi, e]⟩
set_option maxRecDepth 100000 in
theorem open_ints17 {H : Type} {enc : TypeId × Value → H} {w : World} {base : Nat} {spare : Nat → Bool} {held : Bool} {r : Reach} {b0 : Nat} {v : Value} {d : DataW H} {p : List MemPlace} (hv : Value.okWide Try.prog w r b0 24 v) (h : DataW.Trod enc Try.prog w base spare held 24 v d p) :
    ∃ (o : Option Addr) (L : List Int) (c : Nat), v = .slice o L.length c ∧ RdI w (.slice o L.length c) L ∧ ∀ z ∈ L, -9223372036854775808 ≤ z ∧ z ≤ 9223372036854775807 := by
  obtain ⟨a, len, cap, rfl⟩ := okWide_slice Try.underlying24 hv
  obtain ⟨fuel, hf⟩ := h
  rcases open_ints Try.underlying24 Try.underlying3 (by kernel_rfl) hf with ⟨hcs, _⟩ | ⟨x, l, c, zs, hcs, _, hl, hm, hzl, _, hcell, hwz⟩
  · simp [Value.cells] at hcs
    obtain ⟨rfl, rfl, rfl⟩ := hcs
    exact ⟨none, [], 0, rfl, ⟨none, 0, rfl, by simp, by omega, fun k hk => by simp at hk⟩, fun z hz => by simp at hz⟩
  · simp [Value.cells] at hcs
    obtain ⟨rfl, rfl, rfl⟩ := hcs
    unfold maxLen at hm
    have hz' : len ≤ zs.length := by rw [hzl]; split <;> omega
    obtain ⟨g, off, spot⟩ := x
    obtain ⟨L, hL, hLa⟩ := choose_list (fun i z => w.cell? ((⟨g, off, spot⟩ : Addr).add i) = some (.int .i64 z) ∧ (-9223372036854775808 ≤ z ∧ z ≤ 9223372036854775807)) len (fun i hi => by
      have hw := bounds_i64 (hwz (zs.getD i 0) (by rw [List.getD_eq_getElem?_getD, List.getElem?_eq_getElem (by omega)]; exact List.getElem_mem _))
      exact ⟨_, hcell i (by omega), by omega⟩)
    subst hL
    refine ⟨some ⟨g, off, spot⟩, L, cap, rfl, ⟨_, cap, rfl, hl, by omega, fun k hk => ?_⟩, fun z hz => ?_⟩
    · obtain ⟨z, hzk, hc, _⟩ := hLa k hk
      obtain ⟨z0, _, hc0, _⟩ := hLa 0 (by omega)
      have hs : spot = none := by simpa [Addr.add] using World.cell?_spot hc0
      subst hs
      rw [ad_add] at hc
      exact ⟨g, off, z, rfl, hzk, hc⟩
    · obtain ⟨i, hi, e⟩ := mem_at hz
      obtain ⟨z', hz', _, hb⟩ := hLa i hi
      rw [e] at hz'
      cases hz'
      exact hb
set_option maxRecDepth 100000 in
theorem open_bools17 {H : Type} {enc : TypeId × Value → H} {w : World} {base : Nat} {held : Bool} {r : Reach} {b0 : Nat} {v : Value} {d : DataW H} {p : List MemPlace} (hv : Value.okWide Try.prog w r b0 23 v) (h : DataW.Trod enc Try.prog w base (fun _ => true) held 23 v d p) :
    ∃ (o : Option Addr) (L : List Bool) (c : Nat), v = .slice o L.length c ∧ RdB w (.slice o L.length c) L := by
  obtain ⟨a, len, cap, rfl⟩ := okWide_slice Try.underlying23 hv
  obtain ⟨fuel, hf⟩ := h
  rcases open_bools Try.underlying23 Try.underlying4 (by kernel_rfl) hf with ⟨hcs, _⟩ | ⟨x, l, c, B, hcs, _, hl, hm, _, hcell⟩
  · simp [Value.cells] at hcs
    obtain ⟨rfl, rfl, rfl⟩ := hcs
    exact ⟨none, [], 0, rfl, RdB.nil _⟩
  · simp [Value.cells] at hcs
    obtain ⟨rfl, rfl, rfl⟩ := hcs
    unfold maxLen at hm
    obtain ⟨g, off, spot⟩ := x
    have hL : ((List.range len).map B).length = len := by simp
    refine ⟨some ⟨g, off, spot⟩, (List.range len).map B, cap, by rw [hL], ⟨_, cap, rfl, by rw [hL]; exact hl, by omega, fun k hk => ?_⟩⟩
    rw [hL] at hk
    have hc := hcell k (by omega)
    have hc0 := hcell 0 (by omega)
    have hs : spot = none := by simpa [Addr.add] using World.cell?_spot hc0
    subst hs
    rw [ad_add] at hc
    exact ⟨g, off, B k, rfl, by simp [hk], hc⟩
set_option maxRecDepth 100000 in
theorem open_links17 {H : Type} {enc : TypeId × Value → H} {W : World} {base : Nat} {spare : Nat → Bool} {held : Bool} {r : Reach} {b0 : Nat} {v : Value} {d : DataW H} {p : List MemPlace} (hv : Value.okWide Try.prog W r b0 22 v) (h : DataW.Trod enc Try.prog W base spare held 22 v d p) :
    ∃ (o : Option Addr) (L : List (Int × Int)) (c : Nat), v = .slice o L.length c ∧ RdL W (.slice o L.length c) L ∧ ∀ l ∈ L, (-9223372036854775808 ≤ l.1 ∧ l.1 ≤ 9223372036854775807) ∧ (-9223372036854775808 ≤ l.2 ∧ l.2 ≤ 9223372036854775807) := by
  obtain ⟨a, len, cap, rfl⟩ := okWide_slice Try.underlying22 hv
  obtain ⟨fuel, hf⟩ := h
  rcases Deep.open_slice Try.underlying22 hf with ⟨hcs, _⟩ | ⟨y, l, c, m, n, D, Pl, hcs, _, hl, hm, hmm, _, hx⟩
  · simp [Value.cells] at hcs
    obtain ⟨rfl, rfl, rfl⟩ := hcs
    exact ⟨none, [], 0, rfl, ⟨none, 0, rfl, by simp, by omega, fun k hk => by simp at hk⟩, fun z hz => by simp at hz⟩
  · simp [Value.cells] at hcs
    obtain ⟨rfl, rfl, rfl⟩ := hcs
    unfold maxLen at hm
    have hlm : len ≤ m := by rw [hmm]; split <;> omega
    have hc2 : Try.prog.cellsOf 32 = 2 := by kernel_rfl
    have hc1 : Try.prog.cellsOf 3 = 1 := by kernel_rfl
    obtain ⟨L, hL, hLa⟩ := choose_list (fun i (l : Int × Int) => (W.cell? ((y.add (i * 2)).add 0) = some (.int .i64 l.1) ∧ W.cell? ((y.add (i * 2)).add 1) = some (.int .i64 l.2)) ∧ (-9223372036854775808 ≤ l.1 ∧ l.1 ≤ 9223372036854775807) ∧ (-9223372036854775808 ≤ l.2 ∧ l.2 ≤ 9223372036854775807)) len (fun i hi => by
      obtain ⟨cs', hcells, ht⟩ := hx i (by omega)
      rw [hc2] at hcells
      obtain ⟨_, hlen, hcell⟩ := World.cells?_some hcells
      obtain ⟨xs, k, _, _, _, hxl, hel⟩ := DataW.trod_array Try.underlying32 ht
      have get : ∀ (v : Value) (j : Nat), ((cs'.drop j).take 1) = [v] → cs'[j]? = some v := fun v j h => by
        have h2 : ((cs'.drop j).take 1)[0]? = some v := by rw [h]; rfl
        simpa [List.getElem?_take, List.getElem?_drop] using h2
      have e0 := hel 0 (by omega)
      have e1 := hel 1 (by omega)
      rw [hc1, List.getElem?_eq_getElem (by omega)] at e0 e1
      obtain ⟨p, hp, _, wp⟩ := DataW.trod_int Try.underlying3 e0
      obtain ⟨q, hq, _, wq⟩ := DataW.trod_int Try.underlying3 e1
      have bp := bounds_i64 wp
      have bq := bounds_i64 wq
      exact ⟨(p, q), ⟨(hcell 0 (by omega)).trans (get _ 0 hp), (hcell 1 (by omega)).trans (get _ 1 hq)⟩, ⟨by omega, by omega⟩, ⟨by omega, by omega⟩⟩)
    subst hL
    obtain ⟨g, off, spot⟩ := y
    refine ⟨some ⟨g, off, spot⟩, L, cap, rfl, ⟨_, cap, rfl, hl, by omega, fun k hk => ?_⟩, fun z hz => ?_⟩
    · obtain ⟨z0, _, ⟨hc0, _⟩, _⟩ := hLa 0 (by omega)
      have hs : spot = none := by simpa [Addr.add] using World.cell?_spot hc0
      subst hs
      obtain ⟨z, hz, ⟨h0, h1⟩, _⟩ := hLa k hk
      rw [ad_add, ad_add] at h0 h1
      exact ⟨g, off, z.1, z.2, rfl, hz, h0, h1⟩
    · obtain ⟨i, hi, e⟩ := mem_at hz
      obtain ⟨z', hz', _, hb⟩ := hLa i hi
      rw [e] at hz'
      cases hz'
      exact hb
end Go.Proofs.Ytdbiikllcplmgaa
