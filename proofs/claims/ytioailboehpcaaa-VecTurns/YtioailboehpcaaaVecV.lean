/- Vectors, turns and matrices as values; what is told of three, four and nine numbers; what a call leaves. -/
import Derived.Test.YtioailboehpcaaaDot
namespace Go.Proofs.Ytioailboehpcaaa
open Go.RowKit Fx

/-- From W to W' no block that was there has turned, but for p's. -/
structure Leaves (p : Addr) (W W' : World) : Prop where
  size : W.heap.size ≤ W'.heap.size
  other : ∀ q : Addr, q.block < W.heap.size → q.block ≠ p.block → W'.cell? q = W.cell? q ∧ W'.frozen? q = W.frozen? q
  below : ∀ (B : Nat) (w : World), Below B w W → B ≤ p.block → B ≤ W.heap.size → Below B w W'

theorem Leaves.refl (p : Addr) (W : World) : Leaves p W W := ⟨Nat.le_refl _, fun _ _ _ => ⟨rfl, rfl⟩, fun _ _ h _ _ => h⟩
theorem Leaves.drew {p : Addr} {W w : World} (h : Leaves p W w) : Leaves p W w.drew := ⟨h.size, h.other, fun B w' hb h1 h2 => (h.below B w' hb h1 h2).drew⟩
theorem Leaves.alloc {p : Addr} {W w : World} (h : Leaves p W w) (o : Obj) : Leaves p W (w.alloc o) := by
  refine ⟨by simp; have := h.size; omega, fun q hq hne => ?_, fun B w' hb h1 h2 => (h.below B w' hb h1 h2).alloc (Nat.le_trans h2 h.size) o⟩
  have hlt : q.block < w.heap.size := Nat.lt_of_lt_of_le hq h.size
  have hb := new_after w o
  exact ⟨(hb.cell hlt).trans (h.other q hq hne).1, (hb.frozen hlt).trans (h.other q hq hne).2⟩
theorem Leaves.set {p : Addr} {W w : World} (h : Leaves p W w) {a : Addr} (ha : W.heap.size ≤ a.block) (v : Value) : Leaves p W (w.setCell a v) := by
  refine ⟨by simpa [World.setCell] using h.size, fun q hq hne => ?_, fun B w' hb h1 h2 => (h.below B w' hb h1 h2).setCell (Nat.le_trans h2 ha) v⟩
  have hqa : q.block ≠ a.block := by omega
  exact ⟨(World.cell?_of_block (w := w) (Below.heap_setCell _ _ _ _ hqa)).trans (h.other q hq hne).1, (World.frozen?_of_block (w := w) (Below.heap_setCell _ _ _ _ hqa)).trans (h.other q hq hne).2⟩
/-- Behind a call that touches a flag of the call's own. -/
theorem Leaves.after {p q : Addr} {g : Bool} {W w w' : World} (h : Leaves p W w) (a : After q g w w') (hq : W.heap.size ≤ q.block) : Leaves p W w' := by
  refine ⟨Nat.le_trans h.size a.size, fun x hx hne => ?_, fun B w0 hb h1 h2 => a.below B w0 (h.below B w0 hb h1 h2) (Nat.le_trans h2 hq) (Nat.le_trans h2 h.size)⟩
  have hlt : x.block < w.heap.size := Nat.lt_of_lt_of_le hx h.size
  have := a.other x hlt (by omega)
  exact ⟨this.1.trans (h.other x hx hne).1, this.2.trans (h.other x hx hne).2⟩
/-- Behind a call that touches the flag itself. -/
theorem Leaves.same {p : Addr} {g : Bool} {W w w' : World} (h : Leaves p W w) (a : After p g w w') : Leaves p W w' := by
  refine ⟨Nat.le_trans h.size a.size, fun x hx hne => ?_, fun B w0 hb h1 h2 => a.below B w0 (h.below B w0 hb h1 h2) h1 (Nat.le_trans h2 h.size)⟩
  have hlt : x.block < w.heap.size := Nat.lt_of_lt_of_le hx h.size
  have := a.other x hlt hne
  exact ⟨this.1.trans (h.other x hx hne).1, this.2.trans (h.other x hx hne).2⟩
theorem Leaves.done {p : Addr} {g : Bool} {W W' : World} (h : Leaves p W W') (hc : W'.cell? p = some (.bool g)) (hf : W'.frozen? p = false) : After p g W W' := ⟨hc, hf, h.size, h.other, h.below⟩
theorem After.leaves {p : Addr} {g : Bool} {W W' : World} (h : After p g W W') : Leaves p W W' := ⟨h.size, h.other, h.below⟩
theorem After.drew {p : Addr} {g : Bool} {W W' : World} (h : After p g W W') : After p g W W'.drew := h.leaves.drew.done h.cell h.frozen
theorem After.trans {p : Addr} {g g' : Bool} {W W' W'' : World} (h : After p g W W') (h' : After p g' W' W'') : After p g' W W'' := (h.leaves.same h').done h'.cell h'.frozen

structure V3 where
  x : Int
  y : Int
  z : Int
structure V4 where
  w : Int
  x : Int
  y : Int
  z : Int
@[reducible] def V3.val (v : V3) : Value := .agg #[.int .i64 v.x, .int .i64 v.y, .int .i64 v.z]
@[reducible] def V4.val (v : V4) : Value := .agg #[.int .i64 v.w, .int .i64 v.x, .int .i64 v.y, .int .i64 v.z]
def V3.zero : V3 := ⟨0, 0, 0⟩
def V4.zero : V4 := ⟨0, 0, 0, 0⟩

/-- All three, or none. -/
def all3 (a b c : Option Int) : Option V3 := if a.isNone || b.isNone || c.isNone then none else some ⟨a.getD 0, b.getD 0, c.getD 0⟩
def all4 (a b c d : Option Int) : Option V4 := if a.isNone || b.isNone || c.isNone || d.isNone then none else some ⟨a.getD 0, b.getD 0, c.getD 0, d.getD 0⟩

/-- From a flag f, a call that tells o: the value v, the flag g. -/
def StepV {α : Type} (zero : α) (f : Bool) (o : Option α) (v : α) (g : Bool) : Prop := v = o.getD zero ∧ g = (f || o.isNone)
end Go.Proofs.Ytioailboehpcaaa
