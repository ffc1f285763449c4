/- Package fx's calls, one by one: what each returns, and that but for the flag it leaves all memory as it was. -/
import Derived.Test.YtccdgpijjgeedaaKBits
import Derived.Deep.RegionWith
namespace Go.Proofs.Ytccdgpijjgeedaa
open Go.RowKit Fx

theorem great_step (zs : List Int) (k : Nat) (h : k < zs.length) (hn : (zs.take k).any great = false) : (zs.take (k + 1)).any great = great (zs.getD k 0) := by
  rw [List.take_succ_eq_append_getElem h, List.any_append, hn]
  simp [List.getD_eq_getElem?_getD, List.getElem?_eq_getElem h]

/-- What a call that tells o leaves of the flag at p. -/
def mark (p : Addr) (o : Option Int) (w : World) : World := if o.isNone then w.setCell p (.bool true) else w

theorem mark_none (p : Addr) (w : World) : mark p none w = w.setCell p (.bool true) := rfl
theorem mark_some (p : Addr) (n : Int) (w : World) : mark p (some n) w = w := rfl

theorem set_after {w w1 : World} {p : Addr} {v : Value} (hb : Below w.heap.size w w1) : Below w.heap.size (w.setCell p v) (w1.setCell p v) := by
  refine ⟨hb.os, hb.tape, hb.output, by simpa [World.setCell] using hb.size, fun k hk => ?_⟩
  simp only [World.setCell, Array.getElem?_modify]
  rw [hb.block k hk]

theorem cell_after {w w1 : World} {p : Addr} {v : Value} (hb : Below w.heap.size w w1) (hc : w.cell? p = some v) : w1.cell? p = some v := (hb.cell (World.block_lt_of_cell? _ _ hc)).trans hc
theorem frozen_after {w w1 : World} {p : Addr} {v : Value} (hb : Below w.heap.size w w1) (hc : w.cell? p = some v) (hf : w.frozen? p = false) : w1.frozen? p = false := (hb.frozen (World.block_lt_of_cell? _ _ hc)).trans hf
theorem new_after (w : World) (o : Obj) : Below w.heap.size w (w.alloc o) := (Below.refl _ _).alloc (Nat.le_refl _) _

theorem mark_after {w w1 w2 : World} {p : Addr} {o : Option Int} (h1 : Below w.heap.size w w1) (h2 : Below w1.heap.size (mark p o w1) w2) : Below w.heap.size (mark p o w) w2 := by
  have hs := h1.size
  cases o with
  | none => exact (set_after h1).trans (h2.mono hs)
  | some n => exact h1.trans (h2.mono hs)

end Go.Proofs.Ytccdgpijjgeedaa
/- Package fx's calls Mul, Ratio, Div, Root: what each returns, and that but for the flag it leaves all memory as it was. -/
namespace Go.Proofs.Ytccdgpijjgeedaa
open Go.RowKit Fx

theorem below_step {w w1 w2 : World} (h1 : Below w.heap.size w w1) (h2 : Below w1.heap.size w1 w2) : Below w.heap.size w w2 := h1.trans (h2.mono h1.size)

theorem small_prod {x y : Int} (hx : -4611686018427387903 ≤ x ∧ x ≤ 4611686018427387903) (hy : -4611686018427387903 ≤ y ∧ y ≤ 4611686018427387903) : -21267647932558653966460912964485513216 < x * y ∧ x * y < 21267647932558653966460912964485513216 := by
  have a : (x * y).natAbs ≤ 4611686018427387903 * 4611686018427387903 := by rw [Int.natAbs_mul]; exact Nat.mul_le_mul (by omega) (by omega)
  omega

end Go.Proofs.Ytccdgpijjgeedaa
/- Package fx's call Norm: what it returns, and that but for the flag it leaves all memory as it was. -/
namespace Go.Proofs.Ytccdgpijjgeedaa
open Go.RowKit Fx

theorem sum_end {w wr w1 w2 : World} {u0 u1 : Value} (v0 v1 : Value) (HB : Below w.heap.size w wr) (hsz : w.heap.size < wr.heap.size) (hb1 : Below wr.drew.heap.size wr.drew w1) (hb2 : Below w1.heap.size w1 w2)
    (r0 : w2.cell? ⟨w.heap.size, 0, none⟩ = some u0) (r1 : w2.cell? ⟨w.heap.size, 1, none⟩ = some u1) (s0 : w2.frozen? ⟨w.heap.size, 0, none⟩ = false) (s1 : w2.frozen? ⟨w.heap.size, 1, none⟩ = false) :
    Below w.heap.size w ((w2.setCell ⟨w.heap.size, 0, none⟩ v0).setCell ⟨w.heap.size, 1, none⟩ v1) ∧ w.heap.size < ((w2.setCell ⟨w.heap.size, 0, none⟩ v0).setCell ⟨w.heap.size, 1, none⟩ v1).heap.size ∧
    ((w2.setCell ⟨w.heap.size, 0, none⟩ v0).setCell ⟨w.heap.size, 1, none⟩ v1).cell? ⟨w.heap.size, 0, none⟩ = some v0 ∧ ((w2.setCell ⟨w.heap.size, 0, none⟩ v0).setCell ⟨w.heap.size, 1, none⟩ v1).cell? ⟨w.heap.size, 1, none⟩ = some v1 ∧
    ((w2.setCell ⟨w.heap.size, 0, none⟩ v0).setCell ⟨w.heap.size, 1, none⟩ v1).frozen? ⟨w.heap.size, 0, none⟩ = false ∧ ((w2.setCell ⟨w.heap.size, 0, none⟩ v0).setCell ⟨w.heap.size, 1, none⟩ v1).frozen? ⟨w.heap.size, 1, none⟩ = false := by
  have a1 : Below w.heap.size w w1 := (HB.drew).trans (hb1.mono (by simp; omega))
  have a2 := below_step a1 hb2
  have h1 := hb1.size
  have h2 := hb2.size
  simp at h1
  refine ⟨(a2.setCell (Nat.le_refl _) _).setCell (Nat.le_refl _) _, ?_, ?_, ?_, ?_, ?_⟩
  · simp; omega
  · simp [go_sem, r0]
  · simp [go_sem, r1]
  · simp [go_sem, s0]
  · simp [go_sem, s1]

end Go.Proofs.Ytccdgpijjgeedaa
/- Package fx's calls as the laws meet them: what is told, what becomes of the flag, and that nothing else of what was there has turned. -/
namespace Go.Proofs.Ytccdgpijjgeedaa
open Go.RowKit Fx

/-- From a flag f, a call that tells o: the number v, the flag g. -/
def Step (f : Bool) (o : Option Int) (v : Int) (g : Bool) : Prop := v = o.getD 0 ∧ g = (f || o.isNone)

/-- From W to W' the flag at p has become g; no other block that was there has turned. -/
structure After (p : Addr) (g : Bool) (W W' : World) : Prop where
  cell : W'.cell? p = some (.bool g)
  frozen : W'.frozen? p = false
  size : W.heap.size ≤ W'.heap.size
  other : ∀ q : Addr, q.block < W.heap.size → q.block ≠ p.block → W'.cell? q = W.cell? q ∧ W'.frozen? q = W.frozen? q
  below : ∀ (B : Nat) (w : World), Below B w W → B ≤ p.block → B ≤ W.heap.size → Below B w W'
  kept : W'.os = W.os ∧ W'.tape = W.tape ∧ W'.output = W.output ∧ ∀ k, k < W.heap.size → k ≠ p.block → W'.heap[k]? = W.heap[k]?
  beside : p.block < W.heap.size → ∀ o, o ≠ p.off → W'.cell? ⟨p.block, o, none⟩ = W.cell? ⟨p.block, o, none⟩ ∧ W'.frozen? ⟨p.block, o, none⟩ = W.frozen? ⟨p.block, o, none⟩

theorem After.cellOf {p q : Addr} {g : Bool} {W W' : World} (h : After p g W W') {v : Value} (hq : W.cell? q = some v) (hne : q.block ≠ p.block) : W'.cell? q = some v := (h.other q (World.block_lt_of_cell? _ _ hq) hne).1.trans hq
theorem After.frozenOf {p q : Addr} {g : Bool} {W W' : World} (h : After p g W W') {v : Value} (hq : W.cell? q = some v) (hf : W.frozen? q = false) (hne : q.block ≠ p.block) : W'.frozen? q = false := (h.other q (World.block_lt_of_cell? _ _ hq) hne).2.trans hf

theorem After.on {w W W' : World} {p : Addr} {g : Bool} (h : After p g W W') (hb : Below w.heap.size w W) (hp : w.heap.size ≤ p.block) : Below w.heap.size w W' := h.below _ _ hb hp hb.size

theorem after_of {b off : Nat} {f : Bool} {o : Option Int} {W W' : World} (hb : Below W.heap.size (mark ⟨b, off, none⟩ o W) W') (hc : W.cell? ⟨b, off, none⟩ = some (.bool f)) (hf : W.frozen? ⟨b, off, none⟩ = false) :
    After ⟨b, off, none⟩ (f || o.isNone) W W' := by
  have hlt := World.block_lt_of_cell? _ _ hc
  cases o with
  | some n =>
    have hb : Below W.heap.size W W' := hb
    refine ⟨by rw [hb.cell hlt, hc]; simp, by rw [hb.frozen hlt, hf], hb.size, fun q hq _ => ⟨hb.cell hq, hb.frozen hq⟩, fun B w h _ hB => h.trans (hb.mono hB), ⟨hb.os, hb.tape, hb.output, fun k hk _ => hb.block k hk⟩, fun hp o _ => ⟨hb.cell hp, hb.frozen hp⟩⟩
  | none =>
    have hb : Below W.heap.size (W.setCell ⟨b, off, none⟩ (.bool true)) W' := hb
    have hs := hb.size
    simp [World.setCell] at hs
    refine ⟨?_, ?_, by simpa using hs, fun q hq hne => ⟨?_, ?_⟩, fun B w h hp hB => (h.setCell hp _).trans (hb.mono hB), ⟨hb.os, hb.tape, hb.output, fun k hk hne => (hb.block k hk).trans (Below.heap_setCell _ _ _ _ hne)⟩, fun hp o ho => ⟨?_, ?_⟩⟩
    · rw [hb.cell hlt]; simp [go_sem, hc]
    · rw [hb.frozen hlt]; simp [go_sem, hf]
    · rw [hb.cell hq]; exact World.cell?_of_block (w := W) (Below.heap_setCell _ _ _ _ hne)
    · rw [hb.frozen hq]; exact World.frozen?_of_block (w := W) (Below.heap_setCell _ _ _ _ hne)
    · exact (hb.cell (p := ⟨b, o, none⟩) hlt).trans (World.cell?_setCell_other _ _ _ _ (fun e => ho (Addr.mk.inj e).2.1.symm))
    · exact (hb.frozen (p := ⟨b, o, none⟩) hlt).trans (by simp [go_sem])

end Go.Proofs.Ytccdgpijjgeedaa
