/- Package pose's Join and Grown, and the document's own Meet, Grown and Join: all inputs. -/
import Derived.Test.YtfalniafkambmaaBNS0
import Derived.Test.YtfalniafkambmaaBNS1
import Derived.Test.YtfalniafkambmaaProg
import Derived.WalkKit
import Derived.Laws.MathBits
import Derived.Laws.Externs
import Derived.Handy
import Derived.Laws.BitsAllLaws
import Derived.WalkLawsBesides
import Derived.Deep.RegionWith
import Derived.Deep.MidRow
import Derived.Laws.OwnMore
import Derived.Maps.AppendAt
namespace Go.Proofs.Ytfalniafkambmaa
open Go.RowKit Go.Shelf
set_option linter.unusedVariables false

def Bx.grown (a : Bx) (n : Int) : Bx := ⟨a.lo.plus ⟨IntKind.i64.wrap (-n), IntKind.i64.wrap (-n), IntKind.i64.wrap (-n)⟩, a.hi.plus ⟨n, n, n⟩⟩
end Go.Proofs.Ytfalniafkambmaa
namespace Go.Proofs.Ytfalniafkambmaa
open Go.RowKit Go.Shelf
set_option linter.unusedVariables false

def Pt.win (p : Pt) (m : Int) : Bool := p.le ⟨m, m, m⟩ && Pt.le ⟨IntKind.i64.wrap (-m), IntKind.i64.wrap (-m), IntKind.i64.wrap (-m)⟩ p
end Go.Proofs.Ytfalniafkambmaa
namespace Go.Proofs.Ytfalniafkambmaa
open Go.RowKit Go.Shelf
set_option linter.unusedVariables false

theorem Cells.lt {W : World} {b : Nat} {u : Value} {vs : List Value} (h : Cells W b (u :: vs)) : b < W.heap.size := World.block_lt_of_cell? _ _ (h 0 u rfl).1
theorem Cells.apart {W : World} {b b' : Nat} {vs : List Value} (h : Cells W b vs) (hne : b ≠ b') (o : Nat) (u : Value) : Cells (W.setCell ⟨b', o, none⟩ u) b vs := fun i v e =>
  ⟨by simp [go_sem, (h i v e).1], by simp [go_sem, (h i v e).2]⟩
def coreV (pv av ev : Value) (r : Int) : Value := .agg #[pv, av, ev, .int .i64 r]
theorem Cells.grew {A B : World} {row : Option Nat} {b : Nat} {vs : List Value} (h : Cells A b vs) (hg : A.grownBy B row) (hb : ∀ r, row = some r → r ≠ b) : Cells B b vs := fun i v e => by
  have hlt := World.block_lt_of_cell? _ _ (h i v e).1
  have hbl := hg.block b hlt (fun e => hb b e.symm rfl)
  exact ⟨(World.cell?_of_block (w := A) hbl).trans (h i v e).1, (World.frozen?_of_block (w := A) hbl).trans (h i v e).2⟩
end Go.Proofs.Ytfalniafkambmaa
namespace Go.Proofs.Ytfalniafkambmaa.Fx

theorem div_of {n y q : Int} (hy : 0 < y) (h1 : q * y ≤ n) (h2 : n < (q + 1) * y) : n / y = q ∧ n % y = n - q * y := by
  have e : n / y = q := by
    apply Int.le_antisymm
    · have := (Int.ediv_lt_iff_lt_mul hy).2 h2; omega
    · exact (Int.le_ediv_iff_mul_le hy).2 h1
  refine ⟨e, ?_⟩
  have := Int.emod_add_mul_ediv n y
  rw [e, Int.mul_comm] at this
  omega

theorem div_is (n y : Int) (hy : 0 < y) : n / y * y ≤ n ∧ n < (n / y + 1) * y := by
  have a := Int.emod_add_mul_ediv n y
  have b := Int.emod_nonneg n (by omega : y ≠ 0)
  have c := Int.emod_lt_of_pos n hy
  rw [Int.add_mul, Int.mul_comm (n / y) y]
  omega

/-- The quotient, down, whatever the divisor's sign. -/
def fl (X c : Int) : Int := if c < 0 then (-X) / (-c) else X / c

theorem neg_div {T c : Int} (hc : 0 < c) : (-T) / c = if T % c = 0 then -(T / c) else -(T / c + 1) := by
  have a := Int.emod_add_mul_ediv T c
  have b := Int.emod_nonneg T (by omega : c ≠ 0)
  have d := Int.emod_lt_of_pos T hc
  rw [Int.mul_comm] at a
  split
  · refine (div_of hc ?_ ?_).1
    · rw [Int.neg_mul]; omega
    · rw [Int.add_mul, Int.neg_mul]; omega
  · refine (div_of hc ?_ ?_).1
    · rw [Int.neg_mul, Int.add_mul]; omega
    · rw [Int.neg_add, Int.neg_add_cancel_right, Int.neg_mul]; omega

/-- The whole square root, down. -/
def isq : Nat → Nat
  | 0 => 0
  | n + 1 => if (isq n + 1) * (isq n + 1) ≤ n + 1 then isq n + 1 else isq n

theorem isq_is (n : Nat) : isq n * isq n ≤ n ∧ n < (isq n + 1) * (isq n + 1) := by
  induction n with
  | zero => simp [isq]
  | succ n ih =>
    simp only [isq]
    split
    · refine ⟨by assumption, ?_⟩
      have : (isq n + 1 + 1) * (isq n + 1 + 1) = (isq n + 1) * (isq n + 1) + 2 * isq n + 3 := by grind
      omega
    · omega

theorem isq_of {X r : Int} (h0 : 0 ≤ r) (h1 : r * r ≤ X) (h2 : X < (r + 1) * (r + 1)) : r = (isq X.toNat : Int) := by
  have hX : 0 ≤ X := Int.le_trans (Int.mul_nonneg h0 h0) h1
  obtain ⟨x, rfl⟩ := Int.eq_ofNat_of_zero_le hX
  obtain ⟨r, rfl⟩ := Int.eq_ofNat_of_zero_le h0
  obtain ⟨a, b⟩ := isq_is x
  simp only [Int.toNat_natCast]
  have h1 : r * r ≤ x := by exact_mod_cast h1
  have h2 : x < (r + 1) * (r + 1) := by exact_mod_cast h2
  have c : r < isq x + 1 := by
    apply Nat.lt_of_not_le; intro h
    have := Nat.mul_le_mul h h; omega
  have d : isq x < r + 1 := by
    apply Nat.lt_of_not_le; intro h
    have := Nat.mul_le_mul h h; omega
  omega

/-! The numbers of fx: what each call tells (nothing: the flag is set). -/
def great (n : Int) : Bool := decide (n < -4611686018427387903) || decide (4611686018427387903 < n)
theorem great_iff (n : Int) : great n = true ↔ n < -4611686018427387903 ∨ 4611686018427387903 < n := by simp [great]
theorem not_great (n : Int) : great n = false ↔ -4611686018427387903 ≤ n ∧ n ≤ 4611686018427387903 := by simp [great]
def told (n : Int) : Option Int := if great n then none else some n
def add (a b : Int) : Option Int := if great a || great b then none else told (a + b)
def sub (a b : Int) : Option Int := if great a || great b then none else told (a - b)
def ratio (a b c : Int) : Option Int := if c = 0 then none else if great a || (great b || great c) then none else told (fl (a * b) c)
def root (a : Int) : Option Int := if a < 0 then none else if great a then none else told (isq (a * 4294967296).toNat)
def prods : List Int → List Int → Int
  | a :: l, b :: m => a * b + prods l m
  | _, _ => 0
theorem prods_step : ∀ (k : Nat) (l m : List Int), k < l.length → k < m.length → prods (l.take (k + 1)) (m.take (k + 1)) = prods (l.take k) (m.take k) + l.getD k 0 * m.getD k 0
  | 0, a :: l, b :: m, _, _ => by simp [prods]
  | k + 1, a :: l, b :: m, h, h' => by
    have := prods_step k l m (by simpa using h) (by simpa using h')
    simp only [List.take_succ_cons, prods, List.getD_cons_succ] at this ⊢
    rw [this]; omega
  | _, [], _, h, _ => by simp at h
  | _, _ :: _, [], _, h => by simp at h
theorem prods_bound : ∀ (l m : List Int), l.any great = false → m.any great = false → (prods l m).natAbs ≤ l.length * 21267647932558653957237540927630737409
  | [], _, _, _ => by simp [prods]
  | _ :: _, [], _, _ => by simp [prods]
  | a :: l, b :: m, h, h' => by
    simp only [List.any_cons, Bool.or_eq_false_iff] at h h'
    have := prods_bound l m h.2 h'.2
    have ha := (not_great a).1 h.1
    have hb := (not_great b).1 h'.1
    have hp : (a * b).natAbs ≤ 4611686018427387903 * 4611686018427387903 := by rw [Int.natAbs_mul]; exact Nat.mul_le_mul (by omega) (by omega)
    simp only [prods, List.length_cons]
    omega
theorem prods_self : ∀ (l : List Int), 0 ≤ prods l l
  | [] => by simp [prods]
  | a :: l => by
    have := prods_self l
    have h : 0 ≤ a * a := by rcases Int.le_total 0 a with g | g
                             · exact Int.mul_nonneg g g
                             · exact Int.mul_nonneg_of_nonpos_of_nonpos g g
    simp only [prods]; omega
theorem any_take {l : List Int} (k : Nat) (h : l.any great = false) : (l.take k).any great = false := by
  rw [List.any_eq_false] at h ⊢
  exact fun x hx => h x (List.mem_of_mem_take hx)
theorem getD_small {l : List Int} {k : Nat} (h : l.any great = false) (hk : k < l.length) : great (l.getD k 0) = false := by
  rw [List.any_eq_false] at h
  have := h _ (List.getElem_mem hk)
  simpa [List.getD_eq_getElem?_getD, List.getElem?_eq_getElem hk] using this
def dot (l m : List Int) : Option Int := if l.length ≠ m.length then none else if 8 < l.length then none else if l.any great || m.any great then none else told (prods l m / 4294967296)
def norm (l : List Int) : Option Int := if 8 < l.length then none else if l.any great then none else told (isq (prods l l).toNat)
end Go.Proofs.Ytfalniafkambmaa.Fx
namespace Go.Proofs.Ytfalniafkambmaa
open Go.RowKit Fx

theorem great_step (zs : List Int) (k : Nat) (h : k < zs.length) (hn : (zs.take k).any great = false) : (zs.take (k + 1)).any great = great (zs.getD k 0) := by
  rw [List.take_succ_eq_append_getElem h, List.any_append, hn]
  simp [List.getD_eq_getElem?_getD, List.getElem?_eq_getElem h]

/-- What a call that tells o leaves of the flag at p. -/
def mark (p : Addr) (o : Option Int) (w : World) : World := if o.isNone then w.setCell p (.bool true) else w

theorem set_after {w w1 : World} {p : Addr} {v : Value} (hb : Below w.heap.size w w1) : Below w.heap.size (w.setCell p v) (w1.setCell p v) := by
  refine ⟨hb.os, hb.tape, hb.output, by simpa [World.setCell] using hb.size, fun k hk => ?_⟩
  simp only [World.setCell, Array.getElem?_modify]
  rw [hb.block k hk]

theorem cell_after {w w1 : World} {p : Addr} {v : Value} (hb : Below w.heap.size w w1) (hc : w.cell? p = some v) : w1.cell? p = some v := (hb.cell (World.block_lt_of_cell? _ _ hc)).trans hc
theorem frozen_after {w w1 : World} {p : Addr} {v : Value} (hb : Below w.heap.size w w1) (hc : w.cell? p = some v) (hf : w.frozen? p = false) : w1.frozen? p = false := (hb.frozen (World.block_lt_of_cell? _ _ hc)).trans hf
theorem new_after (w : World) (o : Obj) : Below w.heap.size w (w.alloc o) := (Below.refl _ _).alloc (Nat.le_refl _) _

theorem mark_after {w w1 w2 : World} {p : Addr} {o : Option Int} (h1 : Below w.heap.size w w1) (h2 : Below w1.heap.size (mark p o w1) w2) : Below w.heap.size (mark p o w) w2 := by
  have hs := h1.size
  cases o with
  | none => exact (set_after h1).trans (h2.mono hs)
  | some n => exact h1.trans (h2.mono hs)

end Go.Proofs.Ytfalniafkambmaa
namespace Go.Proofs.Ytfalniafkambmaa
open Go.RowKit Fx

theorem below_step {w w1 w2 : World} (h1 : Below w.heap.size w w1) (h2 : Below w1.heap.size w1 w2) : Below w.heap.size w w2 := h1.trans (h2.mono h1.size)

end Go.Proofs.Ytfalniafkambmaa
namespace Go.Proofs.Ytfalniafkambmaa
open Go.RowKit Fx

/-- From a flag f, a call that tells o: the number v, the flag g. -/
def Step (f : Bool) (o : Option Int) (v : Int) (g : Bool) : Prop := v = o.getD 0 ∧ g = (f || o.isNone)

/-- From W to W' the flag at p has become g; no other block that was there has turned. -/
structure After (p : Addr) (g : Bool) (W W' : World) : Prop where
  cell : W'.cell? p = some (.bool g)
  frozen : W'.frozen? p = false
  size : W.heap.size ≤ W'.heap.size
  other : ∀ q : Addr, q.block < W.heap.size → q.block ≠ p.block → W'.cell? q = W.cell? q ∧ W'.frozen? q = W.frozen? q
  below : ∀ (B : Nat) (w : World), Below B w W → B ≤ p.block → B ≤ W.heap.size → Below B w W'
  kept : W'.os = W.os ∧ W'.tape = W.tape ∧ W'.output = W.output ∧ ∀ k, k < W.heap.size → k ≠ p.block → W'.heap[k]? = W.heap[k]?
  beside : p.block < W.heap.size → ∀ o, o ≠ p.off → W'.cell? ⟨p.block, o, none⟩ = W.cell? ⟨p.block, o, none⟩ ∧ W'.frozen? ⟨p.block, o, none⟩ = W.frozen? ⟨p.block, o, none⟩

theorem After.cellOf {p q : Addr} {g : Bool} {W W' : World} (h : After p g W W') {v : Value} (hq : W.cell? q = some v) (hne : q.block ≠ p.block) : W'.cell? q = some v := (h.other q (World.block_lt_of_cell? _ _ hq) hne).1.trans hq
theorem After.frozenOf {p q : Addr} {g : Bool} {W W' : World} (h : After p g W W') {v : Value} (hq : W.cell? q = some v) (hf : W.frozen? q = false) (hne : q.block ≠ p.block) : W'.frozen? q = false := (h.other q (World.block_lt_of_cell? _ _ hq) hne).2.trans hf

theorem After.on {w W W' : World} {p : Addr} {g : Bool} (h : After p g W W') (hb : Below w.heap.size w W) (hp : w.heap.size ≤ p.block) : Below w.heap.size w W' := h.below _ _ hb hp hb.size

theorem after_of {b off : Nat} {f : Bool} {o : Option Int} {W W' : World} (hb : Below W.heap.size (mark ⟨b, off, none⟩ o W) W') (hc : W.cell? ⟨b, off, none⟩ = some (.bool f)) (hf : W.frozen? ⟨b, off, none⟩ = false) :
    After ⟨b, off, none⟩ (f || o.isNone) W W' := by
  have hlt := World.block_lt_of_cell? _ _ hc
  cases o with
  | some n =>
    have hb : Below W.heap.size W W' := hb
    refine ⟨by rw [hb.cell hlt, hc]; simp, by rw [hb.frozen hlt, hf], hb.size, fun q hq _ => ⟨hb.cell hq, hb.frozen hq⟩, fun B w h _ hB => h.trans (hb.mono hB), ⟨hb.os, hb.tape, hb.output, fun k hk _ => hb.block k hk⟩, fun hp o _ => ⟨hb.cell hp, hb.frozen hp⟩⟩
  | none =>
    have hb : Below W.heap.size (W.setCell ⟨b, off, none⟩ (.bool true)) W' := hb
    have hs := hb.size
    simp [World.setCell] at hs
    refine ⟨?_, ?_, by simpa using hs, fun q hq hne => ⟨?_, ?_⟩, fun B w h hp hB => (h.setCell hp _).trans (hb.mono hB), ⟨hb.os, hb.tape, hb.output, fun k hk hne => (hb.block k hk).trans (Below.heap_setCell _ _ _ _ hne)⟩, fun hp o ho => ⟨?_, ?_⟩⟩
    · rw [hb.cell hlt]; simp [go_sem, hc]
    · rw [hb.frozen hlt]; simp [go_sem, hf]
    · rw [hb.cell hq]; exact World.cell?_of_block (w := W) (Below.heap_setCell _ _ _ _ hne)
    · rw [hb.frozen hq]; exact World.frozen?_of_block (w := W) (Below.heap_setCell _ _ _ _ hne)
    · exact (hb.cell (p := ⟨b, o, none⟩) hlt).trans (World.cell?_setCell_other _ _ _ _ (fun e => ho (Addr.mk.inj e).2.1.symm))
    · exact (hb.frozen (p := ⟨b, o, none⟩) hlt).trans (by simp [go_sem])

end Go.Proofs.Ytfalniafkambmaa
namespace Go.Proofs.Ytfalniafkambmaa
open Go.RowKit Fx

/-- The numbers zs lie where the slice leads (a slice without elements may lead anywhere, or nowhere). -/
def NRow (w : World) (a : Option Addr) (zs : List Int) : Prop := zs.length = 0 ∨ ∃ b off, a = some ⟨b, off, none⟩ ∧ ∀ k, k < zs.length → w.cell? ⟨b, off + k, none⟩ = some (.int .i64 (zs.getD k 0))

end Go.Proofs.Ytfalniafkambmaa
namespace Go.Proofs.Ytfalniafkambmaa
open Go.RowKit Fx

/-- From W to W' no block that was there has turned, but for p's. -/
structure Leaves (p : Addr) (W W' : World) : Prop where
  size : W.heap.size ≤ W'.heap.size
  other : ∀ q : Addr, q.block < W.heap.size → q.block ≠ p.block → W'.cell? q = W.cell? q ∧ W'.frozen? q = W.frozen? q
  below : ∀ (B : Nat) (w : World), Below B w W → B ≤ p.block → B ≤ W.heap.size → Below B w W'
  kept : W'.os = W.os ∧ W'.tape = W.tape ∧ W'.output = W.output ∧ ∀ k, k < W.heap.size → k ≠ p.block → W'.heap[k]? = W.heap[k]?
  beside : p.block < W.heap.size → ∀ o, o ≠ p.off → W'.cell? ⟨p.block, o, none⟩ = W.cell? ⟨p.block, o, none⟩ ∧ W'.frozen? ⟨p.block, o, none⟩ = W.frozen? ⟨p.block, o, none⟩

theorem Leaves.refl (p : Addr) (W : World) : Leaves p W W := ⟨Nat.le_refl _, fun _ _ _ => ⟨rfl, rfl⟩, fun _ _ h _ _ => h, ⟨rfl, rfl, rfl, fun _ _ _ => rfl⟩, fun _ _ _ => ⟨rfl, rfl⟩⟩
/-- Behind a step that turns nothing of what was there. -/
theorem Leaves.step {p : Addr} {W w w' : World} (h : Leaves p W w) (k : Below W.heap.size w w') : Leaves p W w' := by
  refine ⟨Nat.le_trans h.size k.size, fun q hq hne => ?_, fun B w0 hb h1 h2 => (h.below B w0 hb h1 h2).trans (k.mono h2), ⟨k.os.trans h.kept.1, k.tape.trans h.kept.2.1, k.output.trans h.kept.2.2.1, fun i hi hne => (k.block i hi).trans (h.kept.2.2.2 i hi hne)⟩, fun hp o ho => ?_⟩
  · exact ⟨(k.cell hq).trans (h.other q hq hne).1, (k.frozen hq).trans (h.other q hq hne).2⟩
  · exact ⟨(k.cell (p := ⟨p.block, o, none⟩) hp).trans (h.beside hp o ho).1, (k.frozen (p := ⟨p.block, o, none⟩) hp).trans (h.beside hp o ho).2⟩
theorem Leaves.alloc {p : Addr} {W w : World} (h : Leaves p W w) (o : Obj) : Leaves p W (w.alloc o) := h.step ((new_after w o).mono h.size)
theorem Leaves.set {p : Addr} {W w : World} (h : Leaves p W w) {a : Addr} (ha : W.heap.size ≤ a.block) (v : Value) : Leaves p W (w.setCell a v) := h.step ((Below.refl _ _).setCell ha v)
/-- Behind a call that touches a flag of the call's own. -/
theorem Leaves.after {p q : Addr} {g : Bool} {W w w' : World} (h : Leaves p W w) (a : After q g w w') (hq : W.heap.size ≤ q.block) : Leaves p W w' :=
  h.step (a.below _ _ (Below.refl _ _) hq h.size)
/-- Behind a call that touches the flag itself. -/
theorem Leaves.same {p : Addr} {g : Bool} {W w w' : World} (h : Leaves p W w) (a : After p g w w') : Leaves p W w' := by
  refine ⟨Nat.le_trans h.size a.size, fun x hx hne => ?_, fun B w0 hb h1 h2 => a.below B w0 (h.below B w0 hb h1 h2) h1 (Nat.le_trans h2 h.size), ⟨a.kept.1.trans h.kept.1, a.kept.2.1.trans h.kept.2.1, a.kept.2.2.1.trans h.kept.2.2.1, fun i hi hne => (a.kept.2.2.2 i (Nat.lt_of_lt_of_le hi h.size) hne).trans (h.kept.2.2.2 i hi hne)⟩, fun hp o ho => ?_⟩
  · have hlt : x.block < w.heap.size := Nat.lt_of_lt_of_le hx h.size
    have := a.other x hlt hne
    exact ⟨this.1.trans (h.other x hx hne).1, this.2.trans (h.other x hx hne).2⟩
  · have := a.beside (Nat.lt_of_lt_of_le hp h.size) o ho
    exact ⟨this.1.trans (h.beside hp o ho).1, this.2.trans (h.beside hp o ho).2⟩
theorem Leaves.done {p : Addr} {g : Bool} {W W' : World} (h : Leaves p W W') (hc : W'.cell? p = some (.bool g)) (hf : W'.frozen? p = false) : After p g W W' := ⟨hc, hf, h.size, h.other, h.below, h.kept, h.beside⟩
structure V3 where
  x : Int
  y : Int
  z : Int
structure V4 where
  w : Int
  x : Int
  y : Int
  z : Int
@[reducible] def V3.val (v : V3) : Value := .agg #[.int .i64 v.x, .int .i64 v.y, .int .i64 v.z]
@[reducible] def V4.val (v : V4) : Value := .agg #[.int .i64 v.w, .int .i64 v.x, .int .i64 v.y, .int .i64 v.z]
def V3.zero : V3 := ⟨0, 0, 0⟩
def V4.zero : V4 := ⟨0, 0, 0, 0⟩

end Go.Proofs.Ytfalniafkambmaa
namespace Go.Proofs.Ytfalniafkambmaa
open Go.RowKit Fx

/-- A shape: a value (0), a box's pointer (1), a slice of so many (2). -/
structure Shape where
  k : Nat
  v : Value
  n : Nat
@[reducible] def Shape.is (v : Value) : Shape := ⟨0, v, 0⟩
@[reducible] def Shape.ptr : Shape := ⟨1, undef, 0⟩
@[reducible] def Shape.row (n : Nat) : Shape := ⟨2, undef, n⟩
structure Made where
  i : Nat
  s : Nat
  cs : List Value

structure Plan where
  W : World
  N : Nat
  p : Addr
  fl : Addr
  g0 : Bool
  bad : Bool
  f : Bool
  calls : List (Nat × Bool)
  tl : Nat
  st : Nat
  r : Nat
  res : List Value
  fixed : List (Addr × Value)
  made : List Made

structure Plan.Good (π : Plan) : Prop where
  wn : π.W.heap.size ≤ π.N
  rr : π.res = [] ∨ (π.W.heap.size ≤ π.r ∧ π.r < π.N ∧ π.fl.block ≠ π.r ∧ π.p.block ≠ π.r ∧ ∀ c ∈ π.fixed, c.1.block ≠ π.r)
  fl0 : π.fl = π.p ∨ π.W.heap.size ≤ π.fl.block
  fl1 : π.fl.block < π.N
  p0 : π.fl = π.p ∨ π.p.block < π.W.heap.size
  fx : ∀ c ∈ π.fixed, c.1.block < π.N ∧ c.1.block ≠ π.fl.block ∧ c.1.block ≠ π.p.block
  badOf : π.bad = true → π.g0 = true ∨ ∃ c ∈ π.calls, c.2 = true
  callBad : ∀ c ∈ π.calls, c.2 = true → π.bad = true

def upd (γ : Nat → Nat) (i b : Nat) : Nat → Nat := fun j => if j = i then b else γ j
section
variable {P : Program} {Q : Exit → Act → World → Prop} {D : Nat → Option Tmp} {A : Nat → Nat → Prop} {sh : Nat → Shape} {π : Plan} {a₀ : Act}

end

end Go.Proofs.Ytfalniafkambmaa
namespace Go.Proofs.Ytfalniafkambmaa
open Go.RowKit Go.Shelf Fx
set_option linter.unusedVariables false

/-- A body's numbers that are reckoned with. -/
structure Bd where
  k : Int
  s : V3
  q : V4
  p : V3
  l : V3
  m : Int
  i : V3
/-- A body's cells; R: those behind its mass. -/
def Bd.L (b : Bd) (R : List Value) : List Value :=
  .int .i64 b.k :: .int .i64 b.s.x :: .int .i64 b.s.y :: .int .i64 b.s.z :: .int .i64 b.q.w :: .int .i64 b.q.x :: .int .i64 b.q.y :: .int .i64 b.q.z ::
  .int .i64 b.p.x :: .int .i64 b.p.y :: .int .i64 b.p.z :: .int .i64 b.l.x :: .int .i64 b.l.y :: .int .i64 b.l.z ::
  .int .i64 b.m :: .int .i64 b.i.x :: .int .i64 b.i.y :: .int .i64 b.i.z :: R
/-- Cells of a block that may be written. -/
def CW (W : World) (b : Nat) (vs : List Value) : Prop := ∀ i v, vs[i]? = some v → W.cell? ⟨b, i, none⟩ = some v ∧ W.frozen? ⟨b, i, none⟩ = false
section
variable {V : World} {p : Addr} {f : Bool} {cs : List (Nat × Bool)} {st : Nat} {S : World → World} {L : Nat → Bool} {w w' : World} {i : Nat}
end
end Go.Proofs.Ytfalniafkambmaa
namespace Go.Proofs.Ytfalniafkambmaa
open Go.RowKit Fx

theorem Leaves.own {p : Addr} {W w : World} (h : Leaves p W w) (v : Value) : Leaves p W (w.setCell p v) := by
  refine ⟨by simpa [World.setCell] using h.size, fun q hq hne => ?_, fun B w' hb h1 h2 => (h.below B w' hb h1 h2).setCell h1 v, ⟨h.kept.1, h.kept.2.1, h.kept.2.2.1, fun i hi hne => (Below.heap_setCell _ _ _ _ hne).trans (h.kept.2.2.2 i hi hne)⟩, fun hp o ho => ⟨(World.cell?_setCell_other _ _ _ _ (fun e => ho (by cases p; exact ((Addr.mk.inj e).2.1).symm))).trans (h.beside hp o ho).1, by rw [show (w.setCell p v).frozen? ⟨p.block, o, none⟩ = w.frozen? ⟨p.block, o, none⟩ by simp [go_sem]]; exact (h.beside hp o ho).2⟩⟩
  exact ⟨(World.cell?_of_block (w := w) (Below.heap_setCell _ _ _ _ hne)).trans (h.other q hq hne).1, (World.frozen?_of_block (w := w) (Below.heap_setCell _ _ _ _ hne)).trans (h.other q hq hne).2⟩

end Go.Proofs.Ytfalniafkambmaa
namespace Go.Proofs.Ytfalniafkambmaa
open Go.RowKit Fx
set_option linter.unusedVariables false

/-- From a flag f, three numbers that are told together. -/
def Step3 (f : Bool) (a b c : Option Int) (x y z : Int) (g : Bool) : Prop :=
  x = cond (a.isNone || b.isNone || c.isNone) 0 (a.getD 0) ∧ y = cond (a.isNone || b.isNone || c.isNone) 0 (b.getD 0) ∧ z = cond (a.isNone || b.isNone || c.isNone) 0 (c.getD 0) ∧ g = (f || (a.isNone || b.isNone || c.isNone))
theorem row3 {w : World} {b : Nat} {x y z : Int} (h0 : w.cell? ⟨b, 0, none⟩ = some (.int .i64 x)) (h1 : w.cell? ⟨b, 1, none⟩ = some (.int .i64 y)) (h2 : w.cell? ⟨b, 2, none⟩ = some (.int .i64 z)) : NRow w (some ⟨b, 0, none⟩) [x, y, z] :=
  Or.inr ⟨b, 0, rfl, fun k hk => by
    match k, hk with
    | 0, _ => exact h0
    | 1, _ => exact h1
    | 2, _ => exact h2⟩

end Go.Proofs.Ytfalniafkambmaa
namespace Go.Proofs.Ytfalniafkambmaa
open Go.RowKit Fx
set_option linter.unusedVariables false

/-- Has one of the numbers that make a turn's matrix no value? -/
def rowsBad (q0 q1 q2 q3 : Int) : Bool := (((add q0 q0).isNone || (add q1 q1).isNone || (add q2 q2).isNone || (add q3 q3).isNone) || ((sub 0 q0).isNone || (sub 0 q1).isNone || (sub 0 q2).isNone || (sub 0 q3).isNone)) || ([(dot [((add q2 q2).getD 0), ((add q3 q3).getD 0)] [q2, q3]).isNone, (sub (4294967296) ((dot [((add q2 q2).getD 0), ((add q3 q3).getD 0)] [q2, q3]).getD 0)).isNone, (dot [((add q1 q1).getD 0), ((add q0 q0).getD 0)] [q2, ((sub 0 q3).getD 0)]).isNone, (dot [((add q1 q1).getD 0), ((add q0 q0).getD 0)] [q3, q2]).isNone, (dot [((add q1 q1).getD 0), ((add q0 q0).getD 0)] [q2, q3]).isNone, (dot [((add q1 q1).getD 0), ((add q3 q3).getD 0)] [q1, q3]).isNone, (sub (4294967296) ((dot [((add q1 q1).getD 0), ((add q3 q3).getD 0)] [q1, q3]).getD 0)).isNone, (dot [((add q2 q2).getD 0), ((add q0 q0).getD 0)] [q3, ((sub 0 q1).getD 0)]).isNone, (dot [((add q1 q1).getD 0), ((add q0 q0).getD 0)] [q3, ((sub 0 q2).getD 0)]).isNone, (dot [((add q2 q2).getD 0), ((add q0 q0).getD 0)] [q3, q1]).isNone, (dot [((add q1 q1).getD 0), ((add q2 q2).getD 0)] [q1, q2]).isNone, (sub (4294967296) ((dot [((add q1 q1).getD 0), ((add q2 q2).getD 0)] [q1, q2]).getD 0)).isNone] : List Bool).any id
def rowsAt0 (q0 q1 q2 q3 : Int) : Int := (sub (4294967296) ((dot [((add q2 q2).getD 0), ((add q3 q3).getD 0)] [q2, q3]).getD 0)).getD 0
def rowsAt1 (q0 q1 q2 q3 : Int) : Int := (dot [((add q1 q1).getD 0), ((add q0 q0).getD 0)] [q2, ((sub 0 q3).getD 0)]).getD 0
def rowsAt2 (q0 q1 q2 q3 : Int) : Int := (dot [((add q1 q1).getD 0), ((add q0 q0).getD 0)] [q3, q2]).getD 0
def rowsAt3 (q0 q1 q2 q3 : Int) : Int := (dot [((add q1 q1).getD 0), ((add q0 q0).getD 0)] [q2, q3]).getD 0
def rowsAt4 (q0 q1 q2 q3 : Int) : Int := (sub (4294967296) ((dot [((add q1 q1).getD 0), ((add q3 q3).getD 0)] [q1, q3]).getD 0)).getD 0
def rowsAt5 (q0 q1 q2 q3 : Int) : Int := (dot [((add q2 q2).getD 0), ((add q0 q0).getD 0)] [q3, ((sub 0 q1).getD 0)]).getD 0
def rowsAt6 (q0 q1 q2 q3 : Int) : Int := (dot [((add q1 q1).getD 0), ((add q0 q0).getD 0)] [q3, ((sub 0 q2).getD 0)]).getD 0
def rowsAt7 (q0 q1 q2 q3 : Int) : Int := (dot [((add q2 q2).getD 0), ((add q0 q0).getD 0)] [q3, q1]).getD 0
def rowsAt8 (q0 q1 q2 q3 : Int) : Int := (sub (4294967296) ((dot [((add q1 q1).getD 0), ((add q2 q2).getD 0)] [q1, q2]).getD 0)).getD 0

end Go.Proofs.Ytfalniafkambmaa
namespace Go.Proofs.Ytfalniafkambmaa
open Go.RowKit Go.Shelf
set_option linter.unusedVariables false

/-- A turn's matrix. -/
structure M9 where
  a0 : Int
  a1 : Int
  a2 : Int
  a3 : Int
  a4 : Int
  a5 : Int
  a6 : Int
  a7 : Int
  a8 : Int
def M9.v (m : M9) : Value := .agg #[.int .i64 m.a0, .int .i64 m.a1, .int .i64 m.a2, .int .i64 m.a3, .int .i64 m.a4, .int .i64 m.a5, .int .i64 m.a6, .int .i64 m.a7, .int .i64 m.a8]
/-- All three, or none. -/
def opt3 (a b c : Option Int) : Option Pt := match a, b, c with
  | some x, some y, some z => some ⟨x, y, z⟩
  | _, _, _ => none
def M9.turn (m : M9) (x : Pt) : Option Pt := opt3 (Fx.dot [m.a0, m.a1, m.a2] [x.x, x.y, x.z]) (Fx.dot [m.a3, m.a4, m.a5] [x.x, x.y, x.z]) (Fx.dot [m.a6, m.a7, m.a8] [x.x, x.y, x.z])
def Pt.addO (x y : Pt) : Option Pt := opt3 (Fx.add x.x y.x) (Fx.add x.y y.y) (Fx.add x.z y.z)
def Pt.times (p : Pt) (n : Int) : Pt := ⟨IntKind.i64.wrap (p.x * n), IntKind.i64.wrap (p.y * n), IntKind.i64.wrap (p.z * n)⟩
theorem step3_pt {f g : Bool} {a b c : Option Int} {x y z : Int} (h : Step3 f a b c x y z g) : (⟨x, y, z⟩ : Pt) = (opt3 a b c).getD Pt.O ∧ g = (f || (opt3 a b c).isNone) := by
  obtain ⟨h1, h2, h3, h4⟩ := h
  subst h1 h2 h3 h4
  cases a <;> cases b <;> cases c <;> simp [opt3, Pt.O]
theorem Cells.after {W W' : World} {b : Nat} {u : Value} {vs : List Value} {g : Bool} (h : Cells W b (u :: vs)) (A : After ⟨b, 0, none⟩ g W W') : Cells W' b (.bool g :: vs) := by
  intro i v e
  have hb : b < W.heap.size := World.block_lt_of_cell? _ _ (h 0 u rfl).1
  cases i with
  | zero => simp at e; subst e; exact ⟨A.cell, A.frozen⟩
  | succ i =>
    obtain ⟨h1, h2⟩ := h (i + 1) v (by simpa using e)
    obtain ⟨a1, a2⟩ := A.beside hb (i + 1) (by simp)
    exact ⟨a1.trans h1, a2.trans h2⟩
theorem Cells.beside {W W' : World} {b b' : Nat} {vs : List Value} {g : Bool} (h : Cells W b vs) (A : After ⟨b', 0, none⟩ g W W') (hne : b ≠ b') : Cells W' b vs := fun i v e =>
  ⟨A.cellOf (h i v e).1 hne, A.frozenOf (h i v e).1 (h i v e).2 hne⟩
theorem Box3.after {W W' : World} {b b' : Nat} {q : Pt} {g : Bool} (h : Box3 W b q) (A : After ⟨b', 0, none⟩ g W W') (hne : b ≠ b') : Box3 W' b q :=
  ⟨A.cellOf h.c0 hne, A.cellOf h.c1 hne, A.cellOf h.c2 hne, A.frozenOf h.c0 h.f0 hne, A.frozenOf h.c1 h.f1 hne, A.frozenOf h.c2 h.f2 hne⟩
theorem RV.Pend.after {W0 : World} {T i j : Nat} {fin : Array Value} {γ : Nat → Value} {L : Nat → Bool} {w w' : World} {b : Nat} {g : Bool} (h : RV.Pend W0 T i j fin γ L w) (A : After ⟨b, 0, none⟩ g w w') (hb : b < W0.heap.size) : RV.Pend W0 T i j fin γ L w' := by
  intro hl
  obtain ⟨c, cs, h1, h2, h3, h4, h5⟩ := h hl
  exact ⟨c, cs, h1, h2, (A.kept.2.2.2 c (Array.getElem?_eq_some_iff.1 h3).1 (by show c ≠ b; omega)).trans h3, h4, h5⟩
theorem arr3' {cs : Array Value} (h : cs.size = 3) : ∃ u0 u1 u2, cs = #[u0, u1, u2] := by
  obtain ⟨l⟩ := cs
  match l, h with
  | [a, b, c], _ => exact ⟨a, b, c, rfl⟩
/-- Where a point comes to, in FX and in grains; whether something was too great. -/
def M9.at1 (m : M9) (p : Pt) : Pt := (m.turn (p.times 1048576)).getD Pt.O
def M9.at2 (m : M9) (t p : Pt) : Pt := ((m.at1 p).addO t).getD Pt.O
def Pt.grain (p : Pt) : Pt := ⟨p.x / 1048576, p.y / 1048576, p.z / 1048576⟩
def M9.ptV (m : M9) (t p : Pt) : Pt := (m.at2 t p).grain
def M9.ptB (m : M9) (t p : Pt) : Bool := (m.turn (p.times 1048576)).isNone || ((m.at1 p).addO t).isNone
/-- A turn as it is handed in. -/
structure Q4 where
  w : Int
  x : Int
  y : Int
  z : Int
def rowsB (q : Q4) : Bool := rowsBad q.w q.x q.y q.z
def rowsM (q : Q4) : M9 := ⟨cond (rowsB q) 0 (rowsAt0 q.w q.x q.y q.z), cond (rowsB q) 0 (rowsAt1 q.w q.x q.y q.z), cond (rowsB q) 0 (rowsAt2 q.w q.x q.y q.z), cond (rowsB q) 0 (rowsAt3 q.w q.x q.y q.z), cond (rowsB q) 0 (rowsAt4 q.w q.x q.y q.z), cond (rowsB q) 0 (rowsAt5 q.w q.x q.y q.z), cond (rowsB q) 0 (rowsAt6 q.w q.x q.y q.z), cond (rowsB q) 0 (rowsAt7 q.w q.x q.y q.z), cond (rowsB q) 0 (rowsAt8 q.w q.x q.y q.z)⟩
def poseV (t : Pt) (q : Q4) : Value := .agg #[.int .i64 t.x, .int .i64 t.y, .int .i64 t.z, .int .i64 q.w, .int .i64 q.x, .int .i64 q.y, .int .i64 q.z]
end Go.Proofs.Ytfalniafkambmaa
namespace Go.Proofs.Ytfalniafkambmaa
open Go.RowKit Go.Shelf
set_option linter.unusedVariables false

theorem rowp_form {W : World} {base : Nat} {u : Value} {n : Nat} {xs : List Value} (h : W.ownsRow base 23 3 u n xs) : ∃ o c, u = .slice o n c := by
  rcases h.2 with ⟨rfl, h0⟩ | ⟨g, cap, cur, rfl, _⟩
  · exact ⟨none, 0, by rw [h0]⟩
  · exact ⟨_, _, rfl⟩
end Go.Proofs.Ytfalniafkambmaa
namespace Go.Proofs.Ytfalniafkambmaa
open Go.RowKit Go.Shelf
attribute [local go_sem] Oper.semAt_some
set_option linter.unusedVariables false

theorem row_turn {A B : World} {base e size k : Nat} {u : Value} {xs : List Value} {row : Option Nat} (h : A.ownsRow base e size u k xs) (hg : A.grownBy B row) (hr : ∀ r, row = some r → r < base) : B.ownsRow base e size u k xs := by
  refine h.kept hg ?_
  cases e1 : u.ownBlock with
  | none => exact .inl rfl
  | some b => exact .inr (fun e => by have := (h.lt b e1).1; have := hr b (by rw [← e]); omega)
/-- The first k things. -/
def firsts (enc : Nat → Pt) (k : Nat) : List Pt := (List.range k).map enc
theorem firsts_succ (enc : Nat → Pt) (k : Nat) : firsts enc (k + 1) = firsts enc k ++ [enc k] := by simp [firsts, List.range_succ]
theorem firsts_length (enc : Nat → Pt) (k : Nat) : (firsts enc k).length = k := by simp [firsts]
theorem firsts_map (Ls : List Pt) (f : Pt → Pt) : firsts (fun k => f (pt Ls k)) Ls.length = Ls.map f := by
  unfold firsts
  apply List.ext_getElem
  · simp
  · intro i h1 h2
    simp at h1 h2
    simp [pt, h2]

end Go.Proofs.Ytfalniafkambmaa
namespace Go.Proofs.Ytfalniafkambmaa
open Go.RowKit Go.Shelf
set_option linter.unusedVariables false

theorem win_in (p : Pt) (m : Int) (h1 : 0 ≤ m) (h2 : m ≤ 9223372036854775807) : p.win m = p.inB m := by
  have e : IntKind.i64.wrap (-m) = -m := by rw [IntKind.wrap_i64]; omega
  unfold Pt.win Pt.le
  rw [e, Bool.eq_iff_iff, Pt.inB_iff]
  simp only [Bool.and_eq_true, decide_eq_true_eq]
  omega
def longF : Nat → Pt → Pt
  | 0, p => p
  | n + 1, p => if p.inB 524288 then longF n (p.plus p) else p
def Pt.long (p : Pt) : Pt := if p = Pt.O then p else longF 20 p
def Pt.big (p : Pt) (n : Nat) : Prop := 2 ^ n ≤ p.x.natAbs ∨ 2 ^ n ≤ p.y.natAbs ∨ 2 ^ n ≤ p.z.natAbs
theorem big_lt {q : Pt} {g : Nat} (hq : q.inB 524288 = true) (hb : q.big (20 - g)) : 1 ≤ g := by
  rw [Pt.inB_iff] at hq
  rcases Nat.eq_zero_or_pos g with rfl | h
  · unfold Pt.big at hb
    simp only [Nat.sub_zero, Nat.reducePow] at hb
    omega
  · exact h
theorem long_step {q : Pt} {g : Nat} (hq : q.inB 524288 = true) (hb : q.big (20 - (g + 1))) (hg : g + 1 ≤ 20) : longF (g + 1) q = longF g (q.plus q) ∧ (q.plus q).big (20 - g) ∧ q.plus q = ⟨2 * q.x, 2 * q.y, 2 * q.z⟩ := by
  have hI := (Pt.inB_iff _ _).1 hq
  have e : q.plus q = ⟨2 * q.x, 2 * q.y, 2 * q.z⟩ := by
    unfold Pt.plus
    congr 1
    · rw [IntKind.wrap_i64]; omega
    · rw [IntKind.wrap_i64]; omega
    · rw [IntKind.wrap_i64]; omega
  refine ⟨by simp [longF, hq], ?_, e⟩
  rw [e]
  unfold Pt.big at *
  have : 20 - g = (20 - (g + 1)) + 1 := by omega
  rw [this, Nat.pow_succ]
  dsimp only
  omega
theorem big_zero {p : Pt} (h : p ≠ Pt.O) : p.big 0 := by
  unfold Pt.big
  apply Classical.byContradiction
  intro hn
  apply h
  obtain ⟨x, y, z⟩ := p
  simp only [Nat.pow_zero] at hn
  have h1 : x = 0 := by omega
  have h2 : y = 0 := by omega
  have h3 : z = 0 := by omega
  rw [h1, h2, h3]; rfl

/-- What becomes of a direction; whether something was too great. -/
def M9.dirT (m : M9) (p : Pt) : Pt := (m.turn (p.long.times 4096)).getD Pt.O
def Pt.quo (p : Pt) (n : Int) : Pt := ⟨wrap64 (p.x.tdiv n), wrap64 (p.y.tdiv n), wrap64 (p.z.tdiv n)⟩
def M9.dirV (m : M9) (p : Pt) : Pt := ((m.dirT p).quo 4096).short
def M9.dirB (m : M9) (p : Pt) : Bool := (m.turn (p.long.times 4096)).isNone
/-- Directions that are turned: those that are not noughts. -/
def M9.dirs (m : M9) (A : List Pt) : List Pt := (A.map m.dirV).filter (fun p => decide (p ≠ Pt.O))
def dirsK (enc : Nat → Pt) (k : Nat) : List Pt := (firsts enc k).filter (fun p => decide (p ≠ Pt.O))
theorem dirsK_yes (enc : Nat → Pt) (k : Nat) (h : enc k ≠ Pt.O) : dirsK enc (k + 1) = dirsK enc k ++ [enc k] := by unfold dirsK; rw [firsts_succ, List.filter_append]; simp [h]
theorem dirsK_no (enc : Nat → Pt) (k : Nat) (h : enc k = Pt.O) : dirsK enc (k + 1) = dirsK enc k := by unfold dirsK; rw [firsts_succ, List.filter_append]; simp [h]
theorem dirsK_length (enc : Nat → Pt) (k : Nat) : (dirsK enc k).length ≤ k := by have := List.length_filter_le (fun p => decide (p ≠ Pt.O)) (firsts enc k); rw [firsts_length] at this; exact this
/-- Whether one of the first k is bad. -/
def anyK (f : Nat → Bool) : Nat → Bool
  | 0 => false
  | k + 1 => anyK f k || f k
theorem anyK_any (Ls : List Pt) (f : Pt → Bool) : anyK (fun k => f (pt Ls k)) Ls.length = Ls.any f := by
  have key : ∀ k, k ≤ Ls.length → anyK (fun k => f (pt Ls k)) k = (Ls.take k).any f := by
    intro k
    induction k with
    | zero => intro _; simp [anyK]
    | succ k ih =>
      intro hk
      rw [List.take_succ_eq_append_getElem (by omega), List.any_append, ← ih (by omega)]
      simp [anyK, pt, List.getElem?_eq_getElem (show k < Ls.length by omega)]
  rw [key _ (Nat.le_refl _), List.take_length]
theorem after_grown {W W' : World} {b : Nat} {g : Bool} (A : After ⟨b, 0, none⟩ g W W') : W.grownBy W' (some b) := ⟨A.kept.1, A.kept.2.1, A.kept.2.2.1, A.size, fun k hk hn => A.kept.2.2.2 k hk (fun e => hn (by rw [e]))⟩
end Go.Proofs.Ytfalniafkambmaa
namespace Go.Proofs.Ytfalniafkambmaa
open Go.RowKit Go.Shelf
attribute [local go_sem] Oper.semAt_some
set_option linter.unusedVariables false

def Bx.l (b : Bx) : List Value := [.int .i64 b.lo.x, .int .i64 b.lo.y, .int .i64 b.lo.z, .int .i64 b.hi.x, .int .i64 b.hi.y, .int .i64 b.hi.z]
end Go.Proofs.Ytfalniafkambmaa
namespace Go.Proofs.Ytfalniafkambmaa
open Go.RowKit Go.Shelf
set_option linter.unusedVariables false

theorem Lies.grown {A B : World} {v : Value} {Ls : List Pt} {fb : Nat} (h : Lies A v Ls) (hg : A.grownBy B (some fb)) (hne : ∀ q n c, v = .slice (some q) n c → Ls ≠ [] → q.block ≠ fb) : Lies B v Ls := by
  obtain ⟨o, cap, e, h1, h2, h3⟩ := h.form
  refine ⟨o, cap, e, h1, h2, fun i hi => ?_⟩
  obtain ⟨g, off, e', a, b, c⟩ := h3 i hi
  have hf : g ≠ fb := hne ⟨g, off, none⟩ _ _ (by rw [e, e']) (fun e0 => by rw [e0] at hi; simp at hi)
  have hbl : B.heap[g]? = A.heap[g]? := hg.block g (World.block_lt_of_cell? _ _ a) (fun e => hf (by simpa using e))
  exact ⟨g, off, e', (World.cell?_of_block (w := A) hbl).trans a, (World.cell?_of_block (w := A) hbl).trans b, (World.cell?_of_block (w := A) hbl).trans c⟩
theorem Lies.lt {A : World} {Ls : List Pt} {q : Addr} {n c : Nat} (h : Lies A (.slice (some q) n c) Ls) (h0 : Ls ≠ []) : q.block < A.heap.size := by
  obtain ⟨o, cap, e, h1, h2, h3⟩ := h.form
  obtain ⟨g, off, e', a, _⟩ := h3 0 (List.length_pos_iff.2 h0)
  simp only [Value.slice.injEq] at e
  rw [← e.1] at e'
  cases e'
  exact World.block_lt_of_cell? _ _ a
end Go.Proofs.Ytfalniafkambmaa
namespace Go.Proofs.Ytfalniafkambmaa
open Go.RowKit Go.Shelf
set_option linter.unusedVariables false

def placeableP (P A E : List Pt) : Bool := decide (0 < P.length) && (P.all (fun p => p.win 1048576) && (A.all (fun p => p.win 1048576) && E.all (fun p => p.win 1048576)))
section
variable {V : World} {cb fb : Nat} {pv av ev : Value} {r : Int} {f b1 b2 b3 : Bool} {m : M9} {t : Pt} {P A E : List Pt} {g4 g5 g9 g13 g16 g17 : Value} {l4 l5 l9 l13 l16 l17 l18 : Bool} {w w' : World}
end
theorem arr4' {cs : Array Value} (h : cs.size = 4) : ∃ u0 u1 u2 u3, cs = #[u0, u1, u2, u3] := by
  obtain ⟨l⟩ := cs
  match l, h with
  | [a, b, c, d], _ => exact ⟨a, b, c, d, rfl⟩
end Go.Proofs.Ytfalniafkambmaa
namespace Go.Proofs.Ytfalniafkambmaa
open Go.RowKit Go.Shelf
set_option linter.unusedVariables false

/-- Whether something is too great on the way. -/
def badP (t : Pt) (q : Q4) (P A E : List Pt) : Bool := rowsB q || P.any ((rowsM q).ptB t) || A.any (rowsM q).dirB || E.any (rowsM q).dirB
def nearP (P : List Pt) : Bool := P.all fun p => p.win 8388608
def placeOk (t : Pt) (q : Q4) (P A E : List Pt) : Bool := placeableP P A E && (!(badP t q P A E) && nearP (P.map ((rowsM q).ptV t)))
end Go.Proofs.Ytfalniafkambmaa
namespace Go.Proofs.Ytfalniafkambmaa
open Go.RowKit Fx
set_option linter.unusedVariables false

/-- What a minus is. -/
theorem neg_is (y : Int) : ((sub 0 y).isNone = true ∧ great y = true ∧ great (-y) = true) ∨ ((sub 0 y) = some (-y) ∧ great y = false ∧ great (-y) = false) := by
  cases h : great y
  · have h' := (not_great y).1 h
    have g : great (-y) = false := (not_great _).2 (by omega)
    refine Or.inr ⟨?_, rfl, g⟩
    have z : great 0 = false := by decide
    have e : (0 : Int) - y = -y := by omega
    simp [sub, h, z, Fx.told, e, g]
  · have h' := (great_iff y).1 h
    refine Or.inl ⟨?_, rfl, (great_iff _).2 (by omega)⟩
    simp [sub, h]
end Go.Proofs.Ytfalniafkambmaa
namespace Go.Proofs.Ytfalniafkambmaa
open Go.RowKit Fx

theorem in_square {x n R : Int} (hR : 0 ≤ R) (hn : 0 ≤ n) (h : x * x + R < (n + 1) * (n + 1)) : -n ≤ x ∧ x ≤ n := by
  constructor
  · apply Int.not_lt.1
    intro hlt
    have := Int.mul_le_mul (show n + 1 ≤ -x by omega) (show n + 1 ≤ -x by omega) (by omega) (by omega)
    rw [Int.neg_mul_neg] at this
    omega
  · apply Int.not_lt.1
    intro hlt
    have := Int.mul_le_mul (show n + 1 ≤ x by omega) (show n + 1 ≤ x by omega) (by omega) (by omega)
    omega
theorem sq_nonneg (x : Int) : 0 ≤ x * x := by
  rcases Int.le_total 0 x with g | g
  · exact Int.mul_nonneg g g
  · exact Int.mul_nonneg_of_nonpos_of_nonpos g g

end Go.Proofs.Ytfalniafkambmaa
namespace Go.Proofs.Ytfalniafkambmaa
open Go.RowKit Fx
set_option linter.unusedVariables false

/-- Can a turn not be made whole? -/
def wholeBad (q0 q1 q2 q3 : Int) : Bool := decide (((norm [q0, q1, q2, q3]).getD 0) < 2147483648) || ((ratio q0 4294967296 ((norm [q0, q1, q2, q3]).getD 0)).isNone || (ratio q1 4294967296 ((norm [q0, q1, q2, q3]).getD 0)).isNone || (ratio q2 4294967296 ((norm [q0, q1, q2, q3]).getD 0)).isNone || (ratio q3 4294967296 ((norm [q0, q1, q2, q3]).getD 0)).isNone)

end Go.Proofs.Ytfalniafkambmaa
