/- Package fx's calls as the laws meet them: what is told, what becomes of the flag, and that nothing else of what was there has turned. -/
import Derived.Test.YtccdgpijjgeedaaNorm
namespace Go.Proofs.Ytccdgpijjgeedaa
open Go.RowKit Fx

/-- From a flag f, a call that tells o: the number v, the flag g. -/
def Step (f : Bool) (o : Option Int) (v : Int) (g : Bool) : Prop := v = o.getD 0 ∧ g = (f || o.isNone)

/-- From W to W' the flag at p has become g; no other block that was there has turned. -/
structure After (p : Addr) (g : Bool) (W W' : World) : Prop where
  cell : W'.cell? p = some (.bool g)
  frozen : W'.frozen? p = false
  size : W.heap.size ≤ W'.heap.size
  other : ∀ q : Addr, q.block < W.heap.size → q.block ≠ p.block → W'.cell? q = W.cell? q ∧ W'.frozen? q = W.frozen? q
  below : ∀ (B : Nat) (w : World), Below B w W → B ≤ p.block → B ≤ W.heap.size → Below B w W'
  kept : W'.os = W.os ∧ W'.tape = W.tape ∧ W'.output = W.output ∧ ∀ k, k < W.heap.size → k ≠ p.block → W'.heap[k]? = W.heap[k]?
  beside : p.block < W.heap.size → ∀ o, o ≠ p.off → W'.cell? ⟨p.block, o, none⟩ = W.cell? ⟨p.block, o, none⟩ ∧ W'.frozen? ⟨p.block, o, none⟩ = W.frozen? ⟨p.block, o, none⟩

theorem After.cellOf {p q : Addr} {g : Bool} {W W' : World} (h : After p g W W') {v : Value} (hq : W.cell? q = some v) (hne : q.block ≠ p.block) : W'.cell? q = some v := (h.other q (World.block_lt_of_cell? _ _ hq) hne).1.trans hq
theorem After.frozenOf {p q : Addr} {g : Bool} {W W' : World} (h : After p g W W') {v : Value} (hq : W.cell? q = some v) (hf : W.frozen? q = false) (hne : q.block ≠ p.block) : W'.frozen? q = false := (h.other q (World.block_lt_of_cell? _ _ hq) hne).2.trans hf

theorem After.on {w W W' : World} {p : Addr} {g : Bool} (h : After p g W W') (hb : Below w.heap.size w W) (hp : w.heap.size ≤ p.block) : Below w.heap.size w W' := h.below _ _ hb hp hb.size

theorem after_of {b off : Nat} {f : Bool} {o : Option Int} {W W' : World} (hb : Below W.heap.size (mark ⟨b, off, none⟩ o W) W') (hc : W.cell? ⟨b, off, none⟩ = some (.bool f)) (hf : W.frozen? ⟨b, off, none⟩ = false) :
    After ⟨b, off, none⟩ (f || o.isNone) W W' := by
  have hlt := World.block_lt_of_cell? _ _ hc
  cases o with
  | some n =>
    have hb : Below W.heap.size W W' := hb
    refine ⟨by rw [hb.cell hlt, hc]; simp, by rw [hb.frozen hlt, hf], hb.size, fun q hq _ => ⟨hb.cell hq, hb.frozen hq⟩, fun B w h _ hB => h.trans (hb.mono hB), ⟨hb.os, hb.tape, hb.output, fun k hk _ => hb.block k hk⟩, fun hp o _ => ⟨hb.cell hp, hb.frozen hp⟩⟩
  | none =>
    have hb : Below W.heap.size (W.setCell ⟨b, off, none⟩ (.bool true)) W' := hb
    have hs := hb.size
    simp [World.setCell] at hs
    refine ⟨?_, ?_, by simpa using hs, fun q hq hne => ⟨?_, ?_⟩, fun B w h hp hB => (h.setCell hp _).trans (hb.mono hB), ⟨hb.os, hb.tape, hb.output, fun k hk hne => (hb.block k hk).trans (Below.heap_setCell _ _ _ _ hne)⟩, fun hp o ho => ⟨?_, ?_⟩⟩
    · rw [hb.cell hlt]; simp [go_sem, hc]
    · rw [hb.frozen hlt]; simp [go_sem, hf]
    · rw [hb.cell hq]; exact World.cell?_of_block (w := W) (Below.heap_setCell _ _ _ _ hne)
    · rw [hb.frozen hq]; exact World.frozen?_of_block (w := W) (Below.heap_setCell _ _ _ _ hne)
    · exact (hb.cell (p := ⟨b, o, none⟩) hlt).trans (World.cell?_setCell_other _ _ _ _ (fun e => ho (Addr.mk.inj e).2.1.symm))
    · exact (hb.frozen (p := ⟨b, o, none⟩) hlt).trans (by simp [go_sem])

end Go.Proofs.Ytccdgpijjgeedaa
