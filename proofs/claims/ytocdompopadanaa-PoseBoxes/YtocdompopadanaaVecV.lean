/- Vectors, turns and matrices as values; what is told of three, four and nine numbers; what a call leaves. -/
import Derived.Test.YtocdompopadanaaDot
namespace Go.Proofs.Ytocdompopadanaa
open Go.RowKit Fx

/-- From W to W' no block that was there has turned, but for p's. -/
structure Leaves (p : Addr) (W W' : World) : Prop where
  size : W.heap.size ≤ W'.heap.size
  other : ∀ q : Addr, q.block < W.heap.size → q.block ≠ p.block → W'.cell? q = W.cell? q ∧ W'.frozen? q = W.frozen? q
  below : ∀ (B : Nat) (w : World), Below B w W → B ≤ p.block → B ≤ W.heap.size → Below B w W'
  kept : W'.os = W.os ∧ W'.tape = W.tape ∧ W'.output = W.output ∧ ∀ k, k < W.heap.size → k ≠ p.block → W'.heap[k]? = W.heap[k]?
  beside : p.block < W.heap.size → ∀ o, o ≠ p.off → W'.cell? ⟨p.block, o, none⟩ = W.cell? ⟨p.block, o, none⟩ ∧ W'.frozen? ⟨p.block, o, none⟩ = W.frozen? ⟨p.block, o, none⟩

theorem Leaves.refl (p : Addr) (W : World) : Leaves p W W := ⟨Nat.le_refl _, fun _ _ _ => ⟨rfl, rfl⟩, fun _ _ h _ _ => h, ⟨rfl, rfl, rfl, fun _ _ _ => rfl⟩, fun _ _ _ => ⟨rfl, rfl⟩⟩
theorem Leaves.drew {p : Addr} {W w : World} (h : Leaves p W w) : Leaves p W w.drew := ⟨h.size, h.other, fun B w' hb h1 h2 => (h.below B w' hb h1 h2).drew, h.kept, h.beside⟩
/-- Behind a step that turns nothing of what was there. -/
theorem Leaves.step {p : Addr} {W w w' : World} (h : Leaves p W w) (k : Below W.heap.size w w') : Leaves p W w' := by
  refine ⟨Nat.le_trans h.size k.size, fun q hq hne => ?_, fun B w0 hb h1 h2 => (h.below B w0 hb h1 h2).trans (k.mono h2), ⟨k.os.trans h.kept.1, k.tape.trans h.kept.2.1, k.output.trans h.kept.2.2.1, fun i hi hne => (k.block i hi).trans (h.kept.2.2.2 i hi hne)⟩, fun hp o ho => ?_⟩
  · exact ⟨(k.cell hq).trans (h.other q hq hne).1, (k.frozen hq).trans (h.other q hq hne).2⟩
  · exact ⟨(k.cell (p := ⟨p.block, o, none⟩) hp).trans (h.beside hp o ho).1, (k.frozen (p := ⟨p.block, o, none⟩) hp).trans (h.beside hp o ho).2⟩
theorem Leaves.alloc {p : Addr} {W w : World} (h : Leaves p W w) (o : Obj) : Leaves p W (w.alloc o) := h.step ((new_after w o).mono h.size)
theorem Leaves.set {p : Addr} {W w : World} (h : Leaves p W w) {a : Addr} (ha : W.heap.size ≤ a.block) (v : Value) : Leaves p W (w.setCell a v) := h.step ((Below.refl _ _).setCell ha v)
/-- Behind a call that touches a flag of the call's own. -/
theorem Leaves.after {p q : Addr} {g : Bool} {W w w' : World} (h : Leaves p W w) (a : After q g w w') (hq : W.heap.size ≤ q.block) : Leaves p W w' :=
  h.step (a.below _ _ (Below.refl _ _) hq h.size)
/-- Behind a call that touches the flag itself. -/
theorem Leaves.same {p : Addr} {g : Bool} {W w w' : World} (h : Leaves p W w) (a : After p g w w') : Leaves p W w' := by
  refine ⟨Nat.le_trans h.size a.size, fun x hx hne => ?_, fun B w0 hb h1 h2 => a.below B w0 (h.below B w0 hb h1 h2) h1 (Nat.le_trans h2 h.size), ⟨a.kept.1.trans h.kept.1, a.kept.2.1.trans h.kept.2.1, a.kept.2.2.1.trans h.kept.2.2.1, fun i hi hne => (a.kept.2.2.2 i (Nat.lt_of_lt_of_le hi h.size) hne).trans (h.kept.2.2.2 i hi hne)⟩, fun hp o ho => ?_⟩
  · have hlt : x.block < w.heap.size := Nat.lt_of_lt_of_le hx h.size
    have := a.other x hlt hne
    exact ⟨this.1.trans (h.other x hx hne).1, this.2.trans (h.other x hx hne).2⟩
  · have := a.beside (Nat.lt_of_lt_of_le hp h.size) o ho
    exact ⟨this.1.trans (h.beside hp o ho).1, this.2.trans (h.beside hp o ho).2⟩
theorem Leaves.done {p : Addr} {g : Bool} {W W' : World} (h : Leaves p W W') (hc : W'.cell? p = some (.bool g)) (hf : W'.frozen? p = false) : After p g W W' := ⟨hc, hf, h.size, h.other, h.below, h.kept, h.beside⟩
theorem After.leaves {p : Addr} {g : Bool} {W W' : World} (h : After p g W W') : Leaves p W W' := ⟨h.size, h.other, h.below, h.kept, h.beside⟩
theorem After.drew {p : Addr} {g : Bool} {W W' : World} (h : After p g W W') : After p g W W'.drew := h.leaves.drew.done h.cell h.frozen
theorem After.trans {p : Addr} {g g' : Bool} {W W' W'' : World} (h : After p g W W') (h' : After p g' W' W'') : After p g' W W'' := (h.leaves.same h').done h'.cell h'.frozen

structure V3 where
  x : Int
  y : Int
  z : Int
structure V4 where
  w : Int
  x : Int
  y : Int
  z : Int
@[reducible] def V3.val (v : V3) : Value := .agg #[.int .i64 v.x, .int .i64 v.y, .int .i64 v.z]
@[reducible] def V4.val (v : V4) : Value := .agg #[.int .i64 v.w, .int .i64 v.x, .int .i64 v.y, .int .i64 v.z]
def V3.zero : V3 := ⟨0, 0, 0⟩
def V4.zero : V4 := ⟨0, 0, 0, 0⟩

/-- All three, or none. -/
def all3 (a b c : Option Int) : Option V3 := if a.isNone || b.isNone || c.isNone then none else some ⟨a.getD 0, b.getD 0, c.getD 0⟩
def all4 (a b c d : Option Int) : Option V4 := if a.isNone || b.isNone || c.isNone || d.isNone then none else some ⟨a.getD 0, b.getD 0, c.getD 0, d.getD 0⟩

/-- From a flag f, a call that tells o: the value v, the flag g. -/
def StepV {α : Type} (zero : α) (f : Bool) (o : Option α) (v : α) (g : Bool) : Prop := v = o.getD zero ∧ g = (f || o.isNone)
end Go.Proofs.Ytocdompopadanaa
