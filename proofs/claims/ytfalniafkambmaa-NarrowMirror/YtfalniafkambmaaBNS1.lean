/- Points of grains in memory: lists of them that are read, and lists of the call's own. -/
import Derived.RangeFuncBox
import Derived.Shelf.Abstract
import Derived.WalkKit
import Derived.OwnWalkIn
import Derived.TacticsInMore
import Derived.LoopNIn
import Derived.LoopIn
import Derived.LoopTactic
import Derived.ProofKit
import Derived.Handy
import Derived.Laws.MakeOwn
import Derived.Laws.OwnMore
import Derived.Maps.AppendAt
import Derived.Deep.RegionWith
import Derived.Deep.QuietTactic
import Derived.BigQuiet
import Derived.Deep.CutBlock
import Derived.Deep.CutRange
import Derived.Deep.LoopGhost
import Derived.Lib.SmallJoins
import Derived.Test.YtfalniafkambmaaBNS0
import Derived.Test.YtfalniafkambmaaProg
import Derived.OneCell
import Derived.WalkMore
import Derived.Lib.BufferMore
namespace Go.Proofs.Ytfalniafkambmaa
open Go.RowKit Go.Shelf
set_option linter.unusedVariables false

def Pt.v (p : Pt) : Value := .agg #[.int .i64 p.x, .int .i64 p.y, .int .i64 p.z]
def fl3 : List Pt → List Value
  | [] => []
  | p :: r => .int .i64 p.x :: .int .i64 p.y :: .int .i64 p.z :: fl3 r
theorem fl3_length : ∀ L : List Pt, (fl3 L).length = L.length * 3
  | [] => rfl
  | p :: r => by simp only [fl3, List.length_cons, fl3_length r]; omega
theorem fl3_append : ∀ A B : List Pt, fl3 (A ++ B) = fl3 A ++ fl3 B
  | [], B => rfl
  | p :: r, B => by simp [fl3, fl3_append r B]
theorem fl3_at : ∀ (L : List Pt) (i : Nat), i < L.length → (fl3 L)[i * 3]? = some (.int .i64 (L[i]?.getD Pt.O).x) ∧ (fl3 L)[i * 3 + 1]? = some (.int .i64 (L[i]?.getD Pt.O).y) ∧ (fl3 L)[i * 3 + 2]? = some (.int .i64 (L[i]?.getD Pt.O).z)
  | [], i, h => by simp at h
  | p :: r, 0, _ => ⟨rfl, rfl, rfl⟩
  | p :: r, i + 1, h => by
    have := fl3_at r i (by simpa using h)
    rw [show (i + 1) * 3 = i * 3 + 3 by omega]
    simpa [fl3] using this
theorem fl3_one (L : List Pt) : ∀ u ∈ fl3 L, u.oneCell' = true := by
  induction L with
  | nil => intro u hu; cases hu
  | cons p r ih =>
    intro u hu
    simp only [fl3, List.mem_cons] at hu
    rcases hu with rfl | rfl | rfl | hu
    · rfl
    · rfl
    · rfl
    · exact ih u hu
theorem point_info : (Try.prog.info? 23).map (fun i => (i.zero, i.size, i.bytes)) = some (some (.agg #[.int .i64 0, .int .i64 0, .int .i64 0]), 3, 24) := by kernel_rfl

theorem b_step {w w1 w2 : World} (h1 : Below w.heap.size w w1) (h2 : Below w1.heap.size w1 w2) : Below w.heap.size w w2 := h1.trans (h2.mono h1.size)
theorem c_after {w w1 : World} {p : Addr} {v : Value} (hb : Below w.heap.size w w1) (hc : w.cell? p = some v) : w1.cell? p = some v := (hb.cell (World.block_lt_of_cell? _ _ hc)).trans hc
theorem n_after (w : World) (o : Obj) : Below w.heap.size w (w.alloc o) := (Below.refl _ _).alloc (Nat.le_refl _) _

theorem f_after {w w1 : World} {p : Addr} {v : Value} (hb : Below w.heap.size w w1) (hc : w.cell? p = some v) (hf : w.frozen? p = false) : w1.frozen? p = false := (hb.frozen (World.block_lt_of_cell? _ _ hc)).trans hf
theorem early9 {p : Bool} {X Y : Prop} (h : (p = false ∧ X) ∨ (p = true ∧ Y)) (hp : p = false) : X := by
  rcases h with h | h
  · exact h.2
  · rw [hp] at h; cases h.1
theorem late9 {p : Bool} {X Y : Prop} (h : (p = false ∧ X) ∨ (p = true ∧ Y)) (hp : p = true) : Y := by
  rcases h with h | h
  · rw [hp] at h; cases h.1
  · exact h.2
theorem w64 {n : Int} (h1 : -9223372036854775808 ≤ n) (h2 : n ≤ 9223372036854775807) : wrap64 n = n := by unfold wrap64; omega

/-- A point's box. -/
structure Box3 (W : World) (b : Nat) (q : Pt) : Prop where
  c0 : W.cell? ⟨b, 0, none⟩ = some (.int .i64 q.x)
  c1 : W.cell? ⟨b, 1, none⟩ = some (.int .i64 q.y)
  c2 : W.cell? ⟨b, 2, none⟩ = some (.int .i64 q.z)
  f0 : W.frozen? ⟨b, 0, none⟩ = false
  f1 : W.frozen? ⟨b, 1, none⟩ = false
  f2 : W.frozen? ⟨b, 2, none⟩ = false
theorem Box3.step {A B : World} {b : Nat} {q : Pt} (h : Box3 A b q) (hb : Below A.heap.size A B) : Box3 B b q :=
  ⟨c_after hb h.c0, c_after hb h.c1, c_after hb h.c2, f_after hb h.c0 h.f0, f_after hb h.c1 h.f1, f_after hb h.c2 h.f2⟩
theorem Box3.lt {W : World} {b : Nat} {q : Pt} (h : Box3 W b q) : b < W.heap.size := World.block_lt_of_cell? _ _ h.c0
theorem Box3.new (w : World) (x y z : Int) (t : TypeId) : Box3 (w.alloc (.cells #[.int .i64 x, .int .i64 y, .int .i64 z] t)) w.heap.size ⟨x, y, z⟩ :=
  ⟨by simp, by simp, by simp, by simp [go_sem], by simp [go_sem], by simp [go_sem]⟩
def set3 (W : World) (b : Nat) (x y z : Int) : World := ((W.setCell ⟨b, 0, none⟩ (.int .i64 x)).setCell ⟨b, 1, none⟩ (.int .i64 y)).setCell ⟨b, 2, none⟩ (.int .i64 z)
theorem Box3.set {W : World} {b : Nat} {q : Pt} (h : Box3 W b q) (x y z : Int) : Box3 (set3 W b x y z) b ⟨x, y, z⟩ := by
  obtain ⟨c0, c1, c2, f0, f1, f2⟩ := h
  unfold set3
  exact ⟨by simp [go_sem, c0], by simp [go_sem, c1], by simp [go_sem, c2], by simp [go_sem, f0], by simp [go_sem, f1], by simp [go_sem, f2]⟩
theorem Box3.other {W : World} {b b' : Nat} {q : Pt} (h : Box3 W b q) (hne : b' ≠ b) (x y z : Int) : Box3 (set3 W b' x y z) b q := by
  obtain ⟨c0, c1, c2, f0, f1, f2⟩ := h
  unfold set3
  have hne' : ¬ b = b' := fun e => hne e.symm
  exact ⟨by simp [go_sem, c0], by simp [go_sem, c1], by simp [go_sem, c2], by simp [go_sem, f0], by simp [go_sem, f1], by simp [go_sem, f2]⟩
theorem set3_below {n : Nat} {w W : World} {b : Nat} (h : Below n w W) (hb : n ≤ b) (x y z : Int) : Below n w (set3 W b x y z) := ((h.setCell hb _).setCell hb _).setCell hb _
theorem set3_size (W : World) (b : Nat) (x y z : Int) : (set3 W b x y z).heap.size = W.heap.size := by simp [set3, World.setCell]

/-- A list of points that can be read. -/
structure Lies (W : World) (v : Value) (L : List Pt) : Prop where
  form : ∃ o cap, v = .slice o L.length cap ∧ L.length ≤ cap ∧ cap ≤ 9223372036854775807 ∧ ∀ i, i < L.length → ∃ g off, o = some ⟨g, off, none⟩ ∧ W.cell? ⟨g, off + i * 3, none⟩ = some (.int .i64 (pt L i).x) ∧ W.cell? ⟨g, off + i * 3 + 1, none⟩ = some (.int .i64 (pt L i).y) ∧ W.cell? ⟨g, off + i * 3 + 2, none⟩ = some (.int .i64 (pt L i).z)
theorem Lies.of_row {W : World} {base : Nat} {v : Value} {L : List Pt} (h : W.ownsRow base 23 3 v L.length (fl3 L)) : Lies W v L := by
  refine ⟨?_⟩
  rcases h.2 with ⟨rfl, h0⟩ | ⟨g, cap, cur, rfl, hb, hg, h1, h2, h3, h4⟩
  · exact ⟨none, 0, by rw [h0], by omega, by omega, fun i hi => by omega⟩
  · refine ⟨_, cap, rfl, h1, by unfold maxLen at h2; omega, fun i hi => ⟨g, 0, rfl, ?_, ?_, ?_⟩⟩
    · rw [Nat.zero_add]; exact (h.cellAt (i * 3) (by omega)).trans (fl3_at L i hi).1
    · rw [Nat.zero_add]; exact (h.cellAt (i * 3 + 1) (by omega)).trans (fl3_at L i hi).2.1
    · rw [Nat.zero_add]; exact (h.cellAt (i * 3 + 2) (by omega)).trans (fl3_at L i hi).2.2
theorem Lies.below {w W : World} {v : Value} {L : List Pt} (h : Lies w v L) (hb : Below w.heap.size w W) : Lies W v L := by
  obtain ⟨o, cap, e, h1, h2, h3⟩ := h.form
  refine ⟨o, cap, e, h1, h2, fun i hi => ?_⟩
  obtain ⟨g, off, e, a, b, c⟩ := h3 i hi
  exact ⟨g, off, e, c_after hb a, c_after hb b, c_after hb c⟩
theorem Lies.cells {w : World} {v : Value} {L : List Pt} (h : Lies w v L) : ∃ o cap, v = .slice o L.length cap ∧ L.length ≤ cap ∧ cap ≤ 9223372036854775807 ∧ (L = [] ∨ ∃ g off, o = some ⟨g, off, none⟩ ∧ ∀ j u, (fl3 L)[j]? = some u → w.cell? ⟨g, off + j, none⟩ = some u) := by
  obtain ⟨o, cap, e, h1, h2, h3⟩ := h.form
  refine ⟨o, cap, e, h1, h2, ?_⟩
  by_cases h0 : L.length = 0
  · exact Or.inl (List.length_eq_zero_iff.1 h0)
  · right
    obtain ⟨g, off, rfl, _⟩ := h3 0 (by omega)
    refine ⟨g, off, rfl, fun j u hj => ?_⟩
    have hl : j < L.length * 3 := by rw [← fl3_length]; exact (List.getElem?_eq_some_iff.1 hj).1
    obtain ⟨a0, a1, a2⟩ := fl3_at L (j / 3) (by omega)
    obtain ⟨g', off', e', b0, b1, b2⟩ := h3 (j / 3) (by omega)
    simp only [Option.some.injEq, Addr.mk.injEq, and_true] at e'
    obtain ⟨rfl, rfl⟩ := e'
    have : j % 3 = 0 ∨ j % 3 = 1 ∨ j % 3 = 2 := by omega
    rcases this with e | e | e
    · have ej : j / 3 * 3 = j := by omega
      rw [ej] at a0 b0
      rw [a0] at hj
      rw [← hj]; exact b0
    · have ej : j / 3 * 3 + 1 = j := by omega
      rw [ej] at a1
      rw [show off + j / 3 * 3 + 1 = off + j by omega] at b1
      rw [a1] at hj
      rw [← hj]; exact b1
    · have ej : j / 3 * 3 + 2 = j := by omega
      rw [ej] at a2
      rw [show off + j / 3 * 3 + 2 = off + j by omega] at b2
      rw [a2] at hj
      rw [← hj]; exact b2
/-- A list of the call's own. -/
structure Row (w V : World) (u : Value) (M : List Pt) : Prop where
  row : V.ownsRow w.heap.size 23 3 u M.length (fl3 M)
  below : Below w.heap.size w V
theorem Row.lies {w V : World} {u : Value} {M : List Pt} (h : Row w V u M) : Lies V u M := Lies.of_row h.row
theorem news_at {w : World} {vb : Nat} {x y z : Value} {t : TypeId} (h : w.heap[vb]? = some (.cells #[x, y, z] t (0, 0))) : ∀ j u, [x, y, z][j]? = some u → w.cell? ((⟨vb, 0, none⟩ : Addr).add j) = some u := by
  intro j u hj
  have ad : (⟨vb, 0, none⟩ : Addr).add j = ⟨vb, j, none⟩ := by unfold Addr.add; split <;> simp_all
  rw [ad]
  match j, hj with
  | 0, hj => simp at hj; subst hj; simp [World.cell?, h]
  | 1, hj => simp at hj; subst hj; simp [World.cell?, h]
  | 2, hj => simp at hj; subst hj; simp [World.cell?, h]
theorem below_grown {w W : World} (h : Below w.heap.size w W) (row : Option Nat) : w.grownBy W row := ⟨h.os, h.tape, h.output, h.size, fun k hk _ => h.block k hk⟩
theorem G.trans {a b c : World} {row : Option Nat} (h : a.grownBy b row) (k : b.grownBy c row) : a.grownBy c row := ⟨k.os.trans h.os, k.tape.trans h.tape, k.output.trans h.output, Nat.le_trans h.size k.size, fun i hi hn => (k.block i (Nat.lt_of_lt_of_le hi h.size) hn).trans (h.block i hi hn)⟩
theorem own_below {A W : World} {base : Nat} {t : TypeId} {sz n : Nat} {u : Value} {xs : List Value} (h : A.ownsRow base t sz u n xs) (hb : Below A.heap.size A W) : W.ownsRow base t sz u n xs := by
  cases e : u.ownBlock with
  | none => exact h.kept (below_grown hb none) (Or.inl e)
  | some k => exact h.kept (below_grown hb none) (Or.inr (by rw [e]; simp))
/-- What a call does that appends to the list u. -/
structure Grew (w W : World) (u u' : Value) : Prop where
  grown : w.grownBy W u.ownBlock
  same : u'.ownBlock = u.ownBlock ∨ ∃ k, u'.ownBlock = some k ∧ w.heap.size ≤ k
theorem Grew.below {w W : World} (hb : Below w.heap.size w W) (u : Value) : Grew w W u u := ⟨below_grown hb _, Or.inl rfl⟩
theorem Grew.trans {w W X : World} {u v x : Value} (h : Grew w W u v) (k : Grew W X v x) : Grew w X u x := by
  obtain ⟨h1, h2⟩ := h
  obtain ⟨k1, k2⟩ := k
  refine ⟨⟨k1.os.trans h1.os, k1.tape.trans h1.tape, k1.output.trans h1.output, Nat.le_trans h1.size k1.size, fun i hi hn => ?_⟩, ?_⟩
  · refine (k1.block i (Nat.lt_of_lt_of_le hi h1.size) ?_).trans (h1.block i hi hn)
    rcases h2 with e | ⟨j, e, hj⟩
    · rw [e]; exact hn
    · rw [e]; intro e'; cases e'; omega
  · rcases k2 with e | ⟨j, e, hj⟩
    · rw [e]
      rcases h2 with e | ⟨j, e, hj⟩
      · exact Or.inl e
      · exact Or.inr ⟨j, e, hj⟩
    · exact Or.inr ⟨j, e, Nat.le_trans h1.size hj⟩
theorem Grew.on {w0 w W : World} {u u' : Value} {base : Nat} {t : TypeId} {sz n : Nat} {xs : List Value} (h : Grew w W u u') (hb : Below base w0 w) (ho : w.ownsRow base t sz u n xs) (hB : base ≤ w.heap.size) : Below base w0 W := hb.grown h.grown hB (fun k e => (ho.lt k e).1)
/-- A list beside the one that grew. -/
theorem Grew.beside {w W : World} {u u' x : Value} {base : Nat} {t : TypeId} {sz n : Nat} {xs : List Value} (h : Grew w W u u') (ho : w.ownsRow base t sz x n xs) (hne : ∀ k, x.ownBlock = some k → u.ownBlock ≠ some k) :
    W.ownsRow base t sz x n xs ∧ ∀ k, x.ownBlock = some k → u'.ownBlock ≠ some k := by
  refine ⟨?_, fun k e e' => ?_⟩
  · cases e : x.ownBlock with
    | none => exact ho.kept h.grown (Or.inl e)
    | some k => exact ho.kept h.grown (Or.inr (by rw [e]; exact fun e' => hne k e e'.symm))
  · rcases h.same with s | ⟨j, s, hj⟩
    · rw [s] at e'; exact hne k e e'
    · rw [s] at e'; cases e'; have := (ho.lt k e).2; omega
end Go.Proofs.Ytfalniafkambmaa
namespace Go.Proofs.Ytfalniafkambmaa
set_option linter.unusedVariables false

theorem Pt.ne_O {n : Pt} (h : n ≠ Pt.O) : n.x ≠ 0 ∨ n.y ≠ 0 ∨ n.z ≠ 0 := by
  cases n with
  | mk a b c =>
    simp only [Pt.O, ne_eq, Pt.mk.injEq] at h
    dsimp only
    omega
/-- Three ways across which one way stands are of one plane. -/
theorem det_plane {n x y z : Pt} (hn : n ≠ Pt.O) (h1 : n.dot x = 0) (h2 : n.dot y = 0) (h3 : n.dot z = 0) : (x.cross y).dot z = 0 := by
  have i1 : (x.cross y).dot z * n.x = n.dot x * (y.cross z).x + n.dot y * (z.cross x).x + n.dot z * (x.cross y).x := by simp only [Pt.dot, Pt.cross]; grind
  have i2 : (x.cross y).dot z * n.y = n.dot x * (y.cross z).y + n.dot y * (z.cross x).y + n.dot z * (x.cross y).y := by simp only [Pt.dot, Pt.cross]; grind
  have i3 : (x.cross y).dot z * n.z = n.dot x * (y.cross z).z + n.dot y * (z.cross x).z + n.dot z * (x.cross y).z := by simp only [Pt.dot, Pt.cross]; grind
  rw [h1, h2, h3] at i1 i2 i3
  simp only [Int.zero_mul, Int.add_zero] at i1 i2 i3
  rcases Pt.ne_O hn with h | h | h
  · exact (Int.mul_eq_zero.1 i1).resolve_right h
  · exact (Int.mul_eq_zero.1 i2).resolve_right h
  · exact (Int.mul_eq_zero.1 i3).resolve_right h
theorem cross_line {u x y : Pt} (hu : u ≠ Pt.O) (h1 : u.cross x = Pt.O) (h2 : u.cross y = Pt.O) : x.cross y = Pt.O := by
  simp only [Pt.cross, Pt.O, Pt.mk.injEq] at *
  obtain ⟨a1, a2, a3⟩ := h1
  obtain ⟨b1, b2, b3⟩ := h2
  have key : ∀ k : Int, (k = u.x ∨ k = u.y ∨ k = u.z) → k * (x.y * y.z - x.z * y.y) = 0 ∧ k * (x.z * y.x - x.x * y.z) = 0 ∧ k * (x.x * y.y - x.y * y.x) = 0 := by
    intro k hk
    rcases hk with rfl | rfl | rfl
    · refine ⟨by grind, by grind, by grind⟩
    · refine ⟨by grind, by grind, by grind⟩
    · refine ⟨by grind, by grind, by grind⟩
  have : ∃ k : Int, k ≠ 0 ∧ (k = u.x ∨ k = u.y ∨ k = u.z) := by
    rcases Pt.ne_O hu with h | h | h
    · exact ⟨_, h, Or.inl rfl⟩
    · exact ⟨_, h, Or.inr (Or.inl rfl)⟩
    · exact ⟨_, h, Or.inr (Or.inr rfl)⟩
  obtain ⟨k, h0, hk⟩ := this
  obtain ⟨c1, c2, c3⟩ := key k hk
  exact ⟨(Int.mul_eq_zero.1 c1).resolve_left h0, (Int.mul_eq_zero.1 c2).resolve_left h0, (Int.mul_eq_zero.1 c3).resolve_left h0⟩
/-- Six times the volume between four points. -/
def vol (p q r s : Pt) : Int := ((q.sub p).cross (r.sub p)).dot (s.sub p)
def flatP (L : List Pt) : Bool := L.all fun c => L.all fun m => decide (vol (pt L 0) (pt L 1) c m = 0)
def flatAll (L : List Pt) : Prop := ∀ p ∈ L, ∀ q ∈ L, ∀ r ∈ L, ∀ s ∈ L, vol p q r s = 0
theorem sub_O {a b : Pt} (h : a ≠ b) : b.sub a ≠ Pt.O := by
  intro e
  cases a; cases b
  simp only [Pt.sub, Pt.O, Pt.mk.injEq, ne_eq] at *
  omega
theorem flatP_iff {L : List Pt} (h2 : 2 ≤ L.length) (hne : pt L 0 ≠ pt L 1) : flatP L = true ↔ flatAll L := by
  have m0 : pt L 0 ∈ L := pt_mem (by omega)
  have m1 : pt L 1 ∈ L := pt_mem (by omega)
  constructor
  · intro h
    have hv : ∀ c ∈ L, ∀ m ∈ L, vol (pt L 0) (pt L 1) c m = 0 := by
      intro c hc m hm
      have := List.all_eq_true.1 (List.all_eq_true.1 h c hc) m hm
      simpa using this
    generalize pt L 0 = a at *
    generalize pt L 1 = b at *
    have hu := sub_O hne
    intro p hp q hq r hr s hs
    by_cases hc : ∃ c ∈ L, (b.sub a).cross (c.sub a) ≠ Pt.O
    · obtain ⟨c, hc, hn⟩ := hc
      have d : ∀ m ∈ L, ((b.sub a).cross (c.sub a)).dot (m.sub a) = 0 := fun m hm => hv c hc m hm
      generalize (b.sub a).cross (c.sub a) = n at *
      have dd : ∀ m ∈ L, n.dot (m.sub p) = 0 := by
        intro m hm
        have e1 := d m hm
        have e2 := d p hp
        have : n.dot (m.sub p) = n.dot (m.sub a) - n.dot (p.sub a) := by simp only [Pt.dot, Pt.sub]; grind
        rw [this, e1, e2]; rfl
      exact det_plane hn (dd q hq) (dd r hr) (dd s hs)
    · have hl : ∀ c ∈ L, (b.sub a).cross (c.sub a) = Pt.O := fun c hcl => Classical.byContradiction fun e => hc ⟨c, hcl, e⟩
      have ll : ∀ c ∈ L, (b.sub a).cross (c.sub p) = Pt.O := by
        intro c hcl
        have e1 := hl c hcl
        have e2 := hl p hp
        generalize b.sub a = u at *
        simp only [Pt.cross, Pt.sub, Pt.O, Pt.mk.injEq] at *
        refine ⟨by grind, by grind, by grind⟩
      have := cross_line hu (ll q hq) (ll r hr)
      unfold vol
      rw [this]
      simp [Pt.dot, Pt.O]
  · intro h
    refine List.all_eq_true.2 fun c hc => List.all_eq_true.2 fun m hm => ?_
    simpa using h _ m0 _ m1 c hc m hm
/-- As the document's own answer asks it: each three, by rising places. -/
def flatR (L : List Pt) : Prop := ∀ i k m o, m < k → k < i → i < L.length → o < L.length → vol (pt L m) (pt L k) (pt L i) (pt L o) = 0
theorem flatR_iff {L : List Pt} (h2 : 2 ≤ L.length) (hne : pt L 0 ≠ pt L 1) : flatR L ↔ flatP L = true := by
  constructor
  · intro h
    refine List.all_eq_true.2 fun c hc => List.all_eq_true.2 fun m hm => ?_
    obtain ⟨i, hi, rfl⟩ := pt_of_mem hc
    obtain ⟨o, ho, rfl⟩ := pt_of_mem hm
    by_cases e0 : i = 0
    · subst e0
      rw [decide_eq_true_eq]
      simp only [vol, Pt.cross, Pt.sub, Pt.dot]
      grind
    · by_cases e1 : i = 1
      · subst e1
        rw [decide_eq_true_eq]
        simp only [vol, Pt.cross, Pt.sub, Pt.dot]
        grind
      · simpa using h i 1 0 o (by omega) (by omega) hi ho
  · intro h i k m o h1 h3 hi ho
    exact (flatP_iff h2 hne).1 h _ (pt_mem (by omega)) _ (pt_mem (by omega)) _ (pt_mem hi) _ (pt_mem ho)
/-! A hull's sides. -/
def above (L : List Pt) (n a : Pt) : Bool := L.any fun m => decide (0 < n.dot (m.sub a))
def below (L : List Pt) (n a : Pt) : Bool := L.any fun m => decide (n.dot (m.sub a) < 0)
def withAxisP (A : List Pt) (n : Pt) : List Pt := if n ∈ A then A else A ++ [n]
def withEdgeP (E : List Pt) (e : Pt) : List Pt := if e.short ∈ E ∨ e.short.neg ∈ E then E else E ++ [e.short]
def withEdgesP (E : List Pt) (more : List Pt) : List Pt := more.foldl withEdgeP E
def triP (L : List Pt) (a b c : Pt) (s : List Pt × List Pt) : List Pt × List Pt :=
  let n := (b.sub a).cross (c.sub a)
  if n = Pt.O ∨ (above L n a = true ∧ below L n a = true) then s
  else (withAxisP s.1 (if above L n a then n.neg else n).short, withEdgesP s.2 [b.sub a, c.sub a, c.sub b])
def innerP (L : List Pt) (a b : Pt) : List Pt → List Pt × List Pt → List Pt × List Pt
  | [], s => s
  | c :: r, s => innerP L a b r (triP L a b c s)
def midP (L : List Pt) (a : Pt) : List Pt → List Pt × List Pt → List Pt × List Pt
  | [], s => s
  | b :: r, s => midP L a r (innerP L a b r s)
def outerP (L : List Pt) : List Pt → List Pt × List Pt → List Pt × List Pt
  | [], s => s
  | a :: r, s => outerP L r (midP L a r s)
def sidesP (L : List Pt) : List Pt × List Pt := outerP L L ([], [])
end Go.Proofs.Ytfalniafkambmaa
namespace Go.Proofs.Ytfalniafkambmaa
set_option linter.unusedVariables false

theorem neg_neg' (p : Pt) : p.neg.neg = p := by cases p; simp [Pt.neg]
theorem neg_ne {p : Pt} (h : p ≠ Pt.O) : p.neg ≠ Pt.O := fun e => h (by rw [← neg_neg' p, e]; decide)
/-- Directions as a core has them. -/
structure TidyD (A E : List Pt) : Prop where
  a0 : ∀ p ∈ A, p ≠ Pt.O ∧ p.short = p
  a1 : A.Nodup
  e0 : ∀ p ∈ E, p ≠ Pt.O ∧ p.short = p
  e1 : E.Pairwise fun p q => p ≠ q ∧ p ≠ q.neg
theorem tidy_nil : TidyD [] [] := ⟨by simp, List.nodup_nil, by simp, List.Pairwise.nil⟩
theorem tidy_axis {A E : List Pt} (h : TidyD A E) {n : Pt} (hb : n.inB 4398046511104 = true) (hn : n ≠ Pt.O) : TidyD (withAxisP A n.short) E := by
  unfold withAxisP
  split
  · exact h
  · rename_i hno
    refine ⟨fun p hp => ?_, ?_, h.e0, h.e1⟩
    · rw [List.mem_append, List.mem_singleton] at hp
      rcases hp with hp | rfl
      · exact h.a0 p hp
      · exact ⟨short_ne hb hn, short_again n⟩
    · rw [List.nodup_append]
      refine ⟨h.a1, by simp, fun a ha b hb => ?_⟩
      rw [List.mem_singleton] at hb
      subst hb
      exact fun e => hno (e ▸ ha)
theorem tidy_edge {A E : List Pt} (h : TidyD A E) {e : Pt} (hb : e.inB 4398046511104 = true) (hn : e ≠ Pt.O) : TidyD A (withEdgeP E e) := by
  unfold withEdgeP
  split
  · exact h
  · rename_i hno
    refine ⟨h.a0, h.a1, fun p hp => ?_, ?_⟩
    · rw [List.mem_append, List.mem_singleton] at hp
      rcases hp with hp | rfl
      · exact h.e0 p hp
      · exact ⟨short_ne hb hn, short_again e⟩
    · rw [List.pairwise_append]
      refine ⟨h.e1, List.pairwise_singleton _ _, fun a ha b hb => ?_⟩
      rw [List.mem_singleton] at hb
      subst hb
      exact ⟨fun e => hno (Or.inl (e ▸ ha)), fun e => hno (Or.inr (e ▸ ha))⟩
theorem mul_in {a b A B : Int} (ha : -A ≤ a ∧ a ≤ A) (hb : -B ≤ b ∧ b ≤ B) : -(A * B) ≤ a * b ∧ a * b ≤ A * B := by
  have h1 := Int.mul_nonneg (show 0 ≤ A - a by omega) (show 0 ≤ B - b by omega)
  have h2 := Int.mul_nonneg (show 0 ≤ A + a by omega) (show 0 ≤ B + b by omega)
  have h3 := Int.mul_nonneg (show 0 ≤ A - a by omega) (show 0 ≤ B + b by omega)
  have h4 := Int.mul_nonneg (show 0 ≤ A + a by omega) (show 0 ≤ B - b by omega)
  simp only [Int.mul_add, Int.add_mul, Int.mul_sub, Int.sub_mul] at h1 h2 h3 h4
  omega
theorem cross_in {p q : Pt} (hp : p.inB 131072 = true) (hq : q.inB 131072 = true) : (p.cross q).inB 34359738368 = true := by
  rw [Pt.inB_iff] at *
  unfold Pt.cross
  dsimp only
  obtain ⟨a1, a2, a3⟩ := hp
  obtain ⟨b1, b2, b3⟩ := hq
  have h1 := mul_in a2 b3
  have h2 := mul_in a3 b2
  have h3 := mul_in a3 b1
  have h4 := mul_in a1 b3
  have h5 := mul_in a1 b2
  have h6 := mul_in a2 b1
  omega
theorem sub_in {p q : Pt} {m : Int} (hp : p.inB m = true) (hq : q.inB m = true) : (p.sub q).inB (2 * m) = true := by
  rw [Pt.inB_iff] at *
  unfold Pt.sub
  dsimp only
  omega
theorem sub_ne {p q : Pt} (h : q ≠ p) : q.sub p ≠ Pt.O := sub_O fun e => h e.symm
theorem tri_tidy {L : List Pt} {a b c : Pt} {s : List Pt × List Pt} (h : TidyD s.1 s.2) (ha : a.inB 65536 = true) (hb : b.inB 65536 = true) (hc : c.inB 65536 = true) (h1 : b ≠ a) (h2 : c ≠ a) (h3 : c ≠ b) :
    TidyD (triP L a b c s).1 (triP L a b c s).2 := by
  unfold triP
  dsimp only
  split
  · exact h
  · rename_i hno
    have hn : (b.sub a).cross (c.sub a) ≠ Pt.O := fun e => hno (Or.inl e)
    have hin := inB_mono (cross_in (sub_in hb ha) (sub_in hc ha)) (n := 4398046511104) (by decide)
    have big : ∀ {p q : Pt}, p.inB 65536 = true → q.inB 65536 = true → (p.sub q).inB 4398046511104 = true := fun hp hq => inB_mono (sub_in hp hq) (by decide)
    refine tidy_edge (tidy_edge (tidy_edge (tidy_axis h ?_ ?_) (big hb ha) (sub_ne h1)) (big hc ha) (sub_ne h2)) (big hc hb) (sub_ne h3)
    · split
      · rw [neg_in]; exact hin
      · exact hin
    · split
      · exact neg_ne hn
      · exact hn
theorem inner_tidy {L : List Pt} {a b : Pt} (ha : a.inB 65536 = true) (hb : b.inB 65536 = true) (hab : b ≠ a) : ∀ (M : List Pt) (s : List Pt × List Pt), (∀ c ∈ M, c.inB 65536 = true ∧ c ≠ a ∧ c ≠ b) → TidyD s.1 s.2 → TidyD (innerP L a b M s).1 (innerP L a b M s).2
  | [], s, _, h => h
  | c :: r, s, hM, h => by
    obtain ⟨k1, k2, k3⟩ := hM c (by simp)
    exact inner_tidy ha hb hab r _ (fun d hd => hM d (by simp [hd])) (tri_tidy h ha hb k1 hab k2 k3)
theorem mid_tidy {L : List Pt} {a : Pt} (ha : a.inB 65536 = true) : ∀ (M : List Pt) (s : List Pt × List Pt), (∀ b ∈ M, b.inB 65536 = true ∧ b ≠ a) → M.Nodup → TidyD s.1 s.2 → TidyD (midP L a M s).1 (midP L a M s).2
  | [], s, _, _, h => h
  | b :: r, s, hM, hd, h => by
    obtain ⟨k1, k2⟩ := hM b (by simp)
    rw [List.nodup_cons] at hd
    exact mid_tidy ha r _ (fun d hd => hM d (by simp [hd])) hd.2 (inner_tidy ha k1 k2 r _ (fun c hc => ⟨(hM c (by simp [hc])).1, (hM c (by simp [hc])).2, fun e => hd.1 (e ▸ hc)⟩) h)
theorem outer_tidy {L : List Pt} : ∀ (M : List Pt) (s : List Pt × List Pt), (∀ b ∈ M, b.inB 65536 = true) → M.Nodup → TidyD s.1 s.2 → TidyD (outerP L M s).1 (outerP L M s).2
  | [], s, _, _, h => h
  | a :: r, s, hM, hd, h => by
    have k1 := hM a (by simp)
    rw [List.nodup_cons] at hd
    exact outer_tidy r _ (fun d hd => hM d (by simp [hd])) hd.2 (mid_tidy k1 r _ (fun b hb => ⟨hM b (by simp [hb]), fun e => hd.1 (e ▸ hb)⟩) hd.2 h)
theorem sides_tidy {L : List Pt} (hL : ∀ b ∈ L, b.inB 65536 = true) (hd : L.Nodup) : TidyD (sidesP L).1 (sidesP L).2 := outer_tidy L _ hL hd tidy_nil
end Go.Proofs.Ytfalniafkambmaa
namespace Go.Proofs.Ytfalniafkambmaa
open Go.RowKit Go.Shelf
set_option linter.unusedVariables false

theorem prod_in {x y A B : Int} (hx : -A ≤ x ∧ x ≤ A) (hy : -B ≤ y ∧ y ≤ B) (h : A * B ≤ 1152921504606846976) : -1152921504606846976 ≤ x * y ∧ x * y ≤ 1152921504606846976 := by
  have := mul_in hx hy
  omega
set_option maxHeartbeats 1000000 in
theorem divided_any (p : Pt) (n : Int) (w : World) (hp : p.inB 1152921504606846976 = true) (hn : 0 < n) (hn' : n ≤ 1152921504606846976):
    Calls Try.prog 91 #[p.v, .int .i64 n] w fun e W => e = .returned (p.by n).v ∧ Below w.heap.size w W := by
  obtain ⟨x, y, z⟩ := p
  rw [Pt.inB_iff] at hp
  unfold Pt.v Pt.by
  dsimp only at *
  go_enter Try.func91, Try.ntmps91
  go_wp2
  go_region
  go_wp2
  exact bodyPost_ret (v := .agg #[.int .i64 (x.tdiv n), .int .i64 (y.tdiv n), .int .i64 (z.tdiv n)]) (by simp [results, Try.results91, go_sem]) rfl ⟨rfl, (((Below.refl _ w).alloc (Nat.le_refl _) _).alloc (by simp) _).drew⟩
set_option maxHeartbeats 1000000 in
theorem within_any (p : Pt) (m : Int) (w : World) (hm : 0 ≤ m) (hm' : m ≤ 1152921504606846976) :
    Calls Try.prog 89 #[p.v, .int .i64 m] w fun e W => e = .returned (.bool (p.inB m)) ∧ Below w.heap.size w W := by
  obtain ⟨x, y, z⟩ := p
  have HE : Hid (∀ b : Bool, (b = true ↔ (-m ≤ x ∧ x ≤ m) ∧ (-m ≤ y ∧ y ≤ m) ∧ (-m ≤ z ∧ z ≤ m)) → Pt.inB ⟨x, y, z⟩ m = b) := fun b h => by
    rw [Bool.eq_iff_iff, h, Pt.inB_iff]
  unfold Pt.v
  go_enter Try.func89, Try.ntmps89
  go_wp2
  all_goals
    go_ret
    exact ⟨congrArg (fun b => Ending.returned (.bool b)) (HE.out _ ⟨fun h => by first | (cases h; done) | omega | (have h' := of_decide_eq_true h; omega), fun h => by first | rfl | (exfalso; omega) | exact decide_eq_true (by omega)⟩).symm, n_after w _⟩
theorem gcd_step {x y : Int} (h : y ≠ 0) : Nat.gcd y.natAbs (x.tmod y).natAbs = Nat.gcd x.natAbs y.natAbs := by
  rw [Int.natAbs_tmod, Nat.gcd_comm x.natAbs, Nat.gcd_rec y.natAbs x.natAbs, Nat.gcd_comm]
theorem tmod_lt {x y : Int} (h : y ≠ 0) : (x.tmod y).natAbs < y.natAbs := by
  rw [Int.natAbs_tmod]; exact Nat.mod_lt _ (by omega)
set_option maxHeartbeats 1000000 in
theorem gcd_any (a b : Int) (w : World) (ha : -1152921504606846976 ≤ a ∧ a ≤ 1152921504606846976) (hb : -1152921504606846976 ≤ b ∧ b ≤ 1152921504606846976) :
    Calls Try.prog 97 #[.int .i64 a, .int .i64 b] w fun e W => e = .returned (.int .i64 (Nat.gcd a.natAbs b.natAbs : Nat)) ∧ Below w.heap.size w W := by
  go_enter Try.func97, Try.ntmps97
  go_wp2
  go_loopw [0, 1] (fun s t wr => ∃ x y : Int, s = .int .i64 x ∧ t = .int .i64 y ∧ (-1152921504606846976 ≤ x ∧ x ≤ 1152921504606846976) ∧ (-1152921504606846976 ≤ y ∧ y ≤ 1152921504606846976) ∧ Hid (Nat.gcd x.natAbs y.natAbs = Nat.gcd a.natAbs b.natAbs) ∧ Hid (Below w.heap.size w wr)) (fun _ t _ => (intOf t).natAbs)
  case atStart => exact ⟨a, b, rfl, rfl, ha, hb, rfl, Below.refl _ _⟩
  case round =>
    obtain ⟨x, y, rfl, rfl, hx, hy, HG, HB⟩ := hrel
    by_cases h0 : y = 0
    · subst h0
      have HE : Hid (((Nat.gcd a.natAbs b.natAbs : Nat) : Int) = if x < -x then -x else x) := by
        show _ = _
        rw [← HG.out]
        simp only [Int.natAbs_zero, Nat.gcd_zero_right]
        split <;> omega
      clear HG
      rcases Int.lt_trichotomy x 0 with h | h | h
      · go_wp2
        go_ret
        refine ⟨?_, HB.out⟩
        rw [HE.out]
        exact congrArg (fun n => Ending.returned (.int .i64 n)) (by rw [if_pos (by omega)])
      · subst h
        go_wp2
        go_ret
        exact ⟨by rw [HE.out]; rfl, HB.out⟩
      · go_wp2
        go_ret
        refine ⟨?_, HB.out⟩
        rw [HE.out]
        exact congrArg (fun n => Ending.returned (.int .i64 n)) (by rw [if_neg (by omega)])
    · have HS : Hid _ := gcd_step (x := x) h0
      have hlt := tmod_lt (x := x) h0
      go_wp2
      go_region
      go_wp2
      go_roundw
      case rel => exact ⟨y, x.tmod y, rfl, rfl, hy, by omega, HS.out.trans HG.out, HB.out.drew⟩
      case measure => exact hlt
end Go.Proofs.Ytfalniafkambmaa
namespace Go.Proofs.Ytfalniafkambmaa
open Go.RowKit Go.Shelf
set_option linter.unusedVariables false

theorem gcd_le {a b B : Nat} (ha : a ≤ B) (hb : b ≤ B) : Nat.gcd a b ≤ B := by
  by_cases h : a = 0
  · subst h; rw [Nat.gcd_zero_left]; exact hb
  · exact Nat.le_trans (Nat.le_of_dvd (by omega) (Nat.gcd_dvd_left a b)) ha
set_option maxHeartbeats 1000000 in
set_option maxRecDepth 100000 in
theorem lowest_any (p : Pt) (w0 : World) (hp : p.inB 4398046511104 = true) :
    Calls Try.prog 90 #[p.v] w0 fun e W => e = .returned p.low.v ∧ Below w0.heap.size w0 W := by
  have hq := hp
  rw [Pt.inB_iff] at hq
  have b1 : Nat.gcd p.x.natAbs p.y.natAbs ≤ 4398046511104 := gcd_le (by omega) (by omega)
  have b2 : p.g ≤ 4398046511104 := gcd_le b1 (by omega)
  have G1 : Hid _ := fun w' => gcd_any p.x p.y w' (by omega) (by omega)
  have G2 : Hid (∀ w', Calls Try.prog 97 #[.int .i64 (Nat.gcd p.x.natAbs p.y.natAbs : Nat), .int .i64 p.z] w' fun e W => e = .returned (.int .i64 (p.g : Nat)) ∧ Below w'.heap.size w' W) := fun w' => gcd_any (Nat.gcd p.x.natAbs p.y.natAbs : Nat) p.z w' (by omega) (by omega)
  have HD : Hid (p.g ≠ 0 → ∀ w', Calls Try.prog 91 #[p.v, .int .i64 (p.g : Nat)] w' fun e W => e = .returned (p.by p.g).v ∧ Below w'.heap.size w' W) := fun h w' => divided_any p p.g w' (inB_mono hp (by decide)) (by omega) (by omega)
  have HL : Hid (p.low = if p.g = 0 then p else p.by p.g) := rfl
  generalize p.low = r at *
  generalize Nat.gcd p.x.natAbs p.y.natAbs = m1 at *
  generalize p.g = m2 at *
  obtain ⟨x, y, z⟩ := p
  clear hp hq
  unfold Pt.v at *
  dsimp only at *
  go_enter Try.func90, Try.ntmps90
  go_wp2_with (fail)
  obtain ⟨V, hV⟩ : ∃ V : World, V = ((w0.alloc (.cells #[.int .i64 x, .int .i64 y, .int .i64 z] 23)).alloc (.cells #[.int .i64 0, .int .i64 0, .int .i64 0] 23)) := ⟨_, rfl⟩
  have hBV : Below w0.heap.size w0 V := by rw [hV]; exact (((Below.refl _ w0).alloc (by simp; try omega) _).alloc (by simp; try omega) _)
  have V0_0 : V.cell? ⟨w0.heap.size, 0, none⟩ = some (.int .i64 x) := by rw [hV]; simp [go_sem]
  have V0_1 : V.cell? ⟨w0.heap.size, 1, none⟩ = some (.int .i64 y) := by rw [hV]; simp [go_sem]
  have V0_2 : V.cell? ⟨w0.heap.size, 2, none⟩ = some (.int .i64 z) := by rw [hV]; simp [go_sem]
  have V1_0 : V.cell? ⟨w0.heap.size + 1, 0, none⟩ = some (.int .i64 0) := by rw [hV]; simp [go_sem]
  have V1_1 : V.cell? ⟨w0.heap.size + 1, 1, none⟩ = some (.int .i64 0) := by rw [hV]; simp [go_sem]
  have V1_2 : V.cell? ⟨w0.heap.size + 1, 2, none⟩ = some (.int .i64 0) := by rw [hV]; simp [go_sem]
  have Vf1_0 : V.frozen? ⟨w0.heap.size + 1, 0, none⟩ = false := by rw [hV]; simp [go_sem]
  have Vf1_1 : V.frozen? ⟨w0.heap.size + 1, 1, none⟩ = false := by rw [hV]; simp [go_sem]
  have Vf1_2 : V.frozen? ⟨w0.heap.size + 1, 2, none⟩ = false := by rw [hV]; simp [go_sem]
  rw [← hV]
  clear hV
  refine RV.region_is [.some (.pointer (some ⟨w0.heap.size, 0, none⟩)), .some (.int .i64 (x)), .some (.pointer (some ⟨w0.heap.size, 1, none⟩)), .some (.int .i64 (y)), .some (.int .i64 ((m1 : Nat))), .some (.pointer (some ⟨w0.heap.size, 2, none⟩)), .some (.int .i64 (z)), .some (.int .i64 ((m2 : Nat))), .some (.int .i64 ((m2 : Nat)))] [5, 6, 7, 8, 9, 10, 11, 12, 4] [(1, .pointer (some ⟨w0.heap.size, 0, none⟩))] (fun γ L w9 => Below V.heap.size V w9) (by kernel_rfl) (by kernel_rfl) (by kernel_rfl) (by kernel_rfl) (by kernel_rfl) (by kernel_rfl) (by kernel_rfl) ⟨rfl, trivial⟩ ?_ ?_ ?_
  · exact (Below.refl _ V).drew
  · intro D WA Z hD hWA hZ T
    simp only [RV.Outs, RV.Slots, Nat.reduceAdd] at T
    iterate 4 first
      | (refine RV.AllDo.cons _ (RV.pu T (fun γ v L w hl h => h) (fun γ L a w hH hl h9 k9 => ⟨_, ?_, rfl⟩)) ?_; · simp [execOp, go_sem, h9])
      | (refine RV.AllDo.cons _ (RV.pu T (fun γ v L w hl h => h) (fun γ L a w hH hl h9 k9 => ⟨_, ?_, rfl⟩)) ?_; · have hB9 := hH.glob; have q0 := c_after hB9 V0_0; have q1 := c_after hB9 V0_1; simp [Region.binds] at k9; simp [execOp, go_sem, h9, k9, q0, q1])
    refine RV.AllDo.cons _ (RV.does_call (fun γ L a w hH hl hA => by have h9 := T γ L a w hH; have k9 := hA; simp [Region.binds] at k9; have hB9 := hH.glob; exact ⟨97, #[.int .i64 (x), .int .i64 (y)], by simp [go_sem, h9, k9], Calls.mono (G1.out w) (by rintro e w2 ⟨rfl, hb⟩; exact ⟨_, rfl, rfl, fun j v _ h => h.keep _, hB9.trans (hb.mono hB9.size)⟩)⟩)) ?_
    iterate 2 first
      | (refine RV.AllDo.cons _ (RV.pu T (fun γ v L w hl h => h) (fun γ L a w hH hl h9 k9 => ⟨_, ?_, rfl⟩)) ?_; · simp [execOp, go_sem, h9])
      | (refine RV.AllDo.cons _ (RV.pu T (fun γ v L w hl h => h) (fun γ L a w hH hl h9 k9 => ⟨_, ?_, rfl⟩)) ?_; · have hB9 := hH.glob; have q0 := c_after hB9 V0_2; simp [Region.binds] at k9; simp [execOp, go_sem, h9, k9, q0])
    refine RV.AllDo.cons _ (RV.does_call (fun γ L a w hH hl hA => by have h9 := T γ L a w hH; have k9 := hA; simp [Region.binds] at k9; have hB9 := hH.glob; exact ⟨97, #[.int .i64 ((m1 : Nat)), .int .i64 (z)], by simp [go_sem, h9, k9], Calls.mono (G2.out w) (by rintro e w2 ⟨rfl, hb⟩; exact ⟨_, rfl, rfl, fun j v _ h => h.keep _, hB9.trans (hb.mono hB9.size)⟩)⟩)) ?_
    (refine RV.AllDo.cons _ (RV.pu T (fun γ v L w hl h => h) (fun γ L a w hH hl h9 k9 => ⟨_, ?_, rfl⟩)) ?_; · simp [Region.binds] at k9; simp [execOp, go_sem, h9, k9])
    exact RV.AllDo.nil
  · intro γ w5 L9 hL hI9 hG9
    have hb8 := hG9
    clear hL hI9 hG9
    simp only [RV.putL, Act.put, List.setIfInBounds_toArray, List.set_cons_zero, List.set_cons_succ]
    have hB5 := hBV.trans (hb8.mono hBV.size)
    have p0 := c_after hb8 V0_0
    have p1 := c_after hb8 V0_1
    have p2 := c_after hb8 V0_2
    have q0 := c_after hb8 V1_0
    have q1 := c_after hb8 V1_1
    have q2 := c_after hb8 V1_2
    have k0 := f_after hb8 V1_0 Vf1_0
    have k1 := f_after hb8 V1_1 Vf1_1
    have k2 := f_after hb8 V1_2 Vf1_2
    by_cases h0 : m2 = 0
    · have h0' : (m2 : Int) = 0 := by omega
      have e : r = ⟨x, y, z⟩ := by rw [HL.out, if_pos h0]
      subst e
      clear HL HD G1 G2 h0
      go_wp2_with (fail)
      refine bodyPost_ret (v := .agg #[.int .i64 x, .int .i64 y, .int .i64 z]) (by simp [results, Try.results90, go_sem, q0, q1, q2]) rfl ⟨rfl, ?_⟩
      exact (((hB5.setCell (by simp) _).setCell (by simp) _).setCell (by simp) _)
    · have h0' : ¬ (m2 : Int) = 0 := by omega
      have e : r = Pt.by ⟨x, y, z⟩ m2 := by rw [HL.out, if_neg h0]
      have HD : Hid _ := HD.out h0
      rw [← e] at HD
      obtain ⟨rx, ry, rz⟩ := r
      clear e HL G1 G2
      dsimp only at *
      go_wp2_with (fail)
      refine Calls.mono (HD.out _) ?_
      clear HD
      rintro e W9 ⟨rfl, hb9⟩
      have q0 := c_after hb9 q0
      have q1 := c_after hb9 q1
      have q2 := c_after hb9 q2
      have k0 := f_after hb9 (c_after hb8 V1_0) k0
      have k1 := f_after hb9 (c_after hb8 V1_1) k1
      have k2 := f_after hb9 (c_after hb8 V1_2) k2
      go_wp2
      refine bodyPost_ret (v := .agg #[.int .i64 rx, .int .i64 ry, .int .i64 rz]) (by simp [results, Try.results90, go_sem, q0, q1, q2]) rfl ⟨rfl, ?_⟩
      exact ((((b_step hB5 hb9).setCell (by simp) _).setCell (by simp) _).setCell (by simp) _)
theorem halveF_step (k : Nat) (q : Pt) (h : q.inB 1048576 = false) (hb : q.inB (2 ^ k : Nat) = true) : ∃ j, k = j + 1 ∧ halveF k q = halveF j (q.by 2) ∧ (q.by 2).inB (2 ^ j : Nat) = true := by
  cases k with
  | zero => rw [inB_mono hb (by decide)] at h; cases h
  | succ j =>
    refine ⟨j, rfl, by rw [halveF, if_neg (by rw [h]; decide)], half_in ?_⟩
    rw [Nat.pow_succ, Nat.mul_comm, Int.natCast_mul] at hb
    exact hb
theorem cast_pow (k : Nat) (h : k ≤ 43) : (((2 ^ k : Nat) : Nat) : Int) ≤ 8796093022208 := by
  have := Nat.pow_le_pow_right (n := 2) (by decide) h
  have e : 2 ^ 43 = 8796093022208 := by decide
  omega
set_option maxHeartbeats 1000000 in
set_option maxRecDepth 100000 in
theorem short_any (p : Pt) (w0 : World) :
    Calls Try.prog 75 #[p.v] w0 fun e W => e = .returned p.short.v ∧ Below w0.heap.size w0 W := by
  have HW : Hid (∀ w', Calls Try.prog 89 #[p.v, .int .i64 4398046511104] w' fun e W => e = .returned (.bool (p.inB 4398046511104)) ∧ Below w'.heap.size w' W) := fun w' => within_any p _ w' (by decide) (by decide)
  have HX : Hid (∀ q : Pt, ∀ w', Calls Try.prog 89 #[q.v, .int .i64 1048576] w' fun e W => e = .returned (.bool (q.inB 1048576)) ∧ Below w'.heap.size w' W) := fun q w' => within_any q _ w' (by decide) (by decide)
  have HLO : Hid (∀ q : Pt, q.inB 4398046511104 = true → ∀ w', Calls Try.prog 90 #[q.v] w' fun e W => e = .returned q.low.v ∧ Below w'.heap.size w' W) := fun q hq w' => lowest_any q w' hq
  have HD : Hid (∀ q : Pt, q.inB 1152921504606846976 = true → ∀ w', Calls Try.prog 91 #[q.v, .int .i64 2] w' fun e W => e = .returned (q.by 2).v ∧ Below w'.heap.size w' W) := fun q hq w' => divided_any q 2 w' hq (by decide) (by decide)
  have bx0 : Hid (Box3 ((w0.alloc (.cells #[.int .i64 p.x, .int .i64 p.y, .int .i64 p.z] 23)).alloc (.cells #[.int .i64 0, .int .i64 0, .int .i64 0] 23)) w0.heap.size p) := (Box3.new w0 p.x p.y p.z _).step (n_after _ _)
  have bx1 : Hid (Box3 ((w0.alloc (.cells #[.int .i64 p.x, .int .i64 p.y, .int .i64 p.z] 23)).alloc (.cells #[.int .i64 0, .int .i64 0, .int .i64 0] 23)) (w0.heap.size + 1) Pt.O) := by have := Box3.new (w0.alloc (.cells #[.int .i64 p.x, .int .i64 p.y, .int .i64 p.z] 23)) 0 0 0 23; rwa [World.size_alloc] at this
  have hB0 : Hid (Below w0.heap.size w0 ((w0.alloc (.cells #[.int .i64 p.x, .int .i64 p.y, .int .i64 p.z] 23)).alloc (.cells #[.int .i64 0, .int .i64 0, .int .i64 0] 23))) := b_step (n_after w0 _) (n_after _ _)
  obtain ⟨r, hr⟩ : ∃ r, p.short = r := ⟨_, rfl⟩
  rw [hr]
  have HR : Hid _ := hr
  clear hr
  unfold Pt.v at *
  go_enter Try.func75, Try.ntmps75
  go_wp2_with (fail)
  refine Calls.mono (HW.out _) ?_
  clear HW
  rintro e V ⟨rfl, hb⟩
  have b0 : Hid _ := bx0.out.step hb
  have b1 : Hid _ := bx1.out.step hb
  have hB : Hid _ := b_step hB0.out hb
  clear bx0 bx1 hB0 hb
  cases hin : p.inB 4398046511104 with
  | false =>
    have e : r = Pt.O := by rw [← HR.out]; unfold Pt.short; rw [if_neg (by rw [hin]; decide)]
    clear HR
    subst e
    obtain ⟨c0, c1, c2, f0, f1, f2⟩ := b1.out
    simp only [Pt.O] at c0 c1 c2
    go_wp2_with (fail)
    refine bodyPost_ret (v := .agg #[.int .i64 0, .int .i64 0, .int .i64 0]) (by simp [results, Try.results75, go_sem, c0, c1, c2]) rfl ⟨rfl, ?_⟩
    exact set3_below hB.out (by omega) 0 0 0
  | true =>
    have hlow := Pt.low_in hin
    have HR : Hid (r = (halveF 43 p.low).low) := by show _ = _; rw [← HR.out]; unfold Pt.short; rw [if_pos hin]; rfl
    have HL1 : Hid _ := HLO.out p hin
    obtain ⟨c0, c1, c2, f0, f1, f2⟩ := b0.out
    go_wp2_with (fail)
    refine Calls.mono (HL1.out _) ?_
    clear HL1
    rintro e V2 ⟨rfl, hb⟩
    have b0 : Hid (Box3 (set3 V2 w0.heap.size p.low.x p.low.y p.low.z) w0.heap.size p.low) := (b0.out.step hb).set _ _ _
    have b1 : Hid (Box3 (set3 V2 w0.heap.size p.low.x p.low.y p.low.z) (w0.heap.size + 1) Pt.O) := (b1.out.step hb).other (by omega) _ _ _
    have hB : Hid (Below w0.heap.size w0 (set3 V2 w0.heap.size p.low.x p.low.y p.low.z)) := set3_below (b_step hB.out hb) (Nat.le_refl _) _ _ _
    have d0 := c_after hb c0
    have d1 := c_after hb c1
    have d2 := c_after hb c2
    have f0 := f_after hb c0 f0
    have f1 := f_after hb c1 f1
    have f2 := f_after hb c2 f2
    unfold set3 at b0 b1 hB
    clear hb c0 c1 c2
    go_wp2_with (fail)
    clear d0 d1 d2 f0 f1 f2
    have hL2 : p.low.inB (2 ^ 43 : Nat) = true := inB_mono hlow (by decide)
    go_loopg [] 43 (fun g wr => ∃ q : Pt, Hid (Box3 wr w0.heap.size q) ∧ Hid (Box3 wr (w0.heap.size + 1) Pt.O) ∧ Hid (Below w0.heap.size w0 wr) ∧ g ≤ 43 ∧ Hid (halveF g q = halveF 43 p.low) ∧ Hid (q.inB (2 ^ g : Nat) = true))
    case atStart => exact ⟨p.low, b0, b1, hB, Nat.le_refl _, rfl, hL2⟩
    case round =>
      clear b0 b1 hB hL2
      obtain ⟨q, b0, b1, hB, hg, HF, HI⟩ := hrel
      have hG : Hid _ := hg
      clear hg
      obtain ⟨c0, c1, c2, f0, f1, f2⟩ := b0.out
      go_wp2_with (fail)
      refine Calls.mono (HX.out q _) ?_
      rintro e V3 ⟨rfl, hb⟩
      clear c0 c1 c2 f0 f1 f2
      have b0 : Hid _ := b0.out.step hb
      have b1 : Hid _ := b1.out.step hb
      have hB : Hid _ := b_step hB.out hb
      clear hb
      cases hq : q.inB 1048576 with
      | false =>
        obtain ⟨j, hj, ej, hin2⟩ := halveF_step _ q hq HI.out
        have HJ : Hid _ := And.intro hj (And.intro ej hin2)
        have hq2 : q.inB 1152921504606846976 = true := inB_mono HI.out (by have := cast_pow _ hG.out; omega)
        have HD2 : Hid _ := HD.out q hq2
        clear hj ej hin2 hq2
        obtain ⟨c0, c1, c2, f0, f1, f2⟩ := b0.out
        go_wp2_with (fail)
        refine Calls.mono (HD2.out _) ?_
        clear HD2
        rintro e V4 ⟨rfl, hb⟩
        have b0 : Hid (Box3 (set3 V4 w0.heap.size (q.by 2).x (q.by 2).y (q.by 2).z) w0.heap.size (q.by 2)) := (b0.out.step hb).set _ _ _
        have b1 : Hid (Box3 (set3 V4 w0.heap.size (q.by 2).x (q.by 2).y (q.by 2).z) (w0.heap.size + 1) Pt.O) := (b1.out.step hb).other (by omega) _ _ _
        have hB : Hid (Below w0.heap.size w0 (set3 V4 w0.heap.size (q.by 2).x (q.by 2).y (q.by 2).z)) := set3_below (b_step hB.out hb) (Nat.le_refl _) _ _ _
        have d0 := c_after hb c0
        have d1 := c_after hb c1
        have d2 := c_after hb c2
        have f0 := f_after hb c0 f0
        have f1 := f_after hb c1 f1
        have f2 := f_after hb c2 f2
        unfold set3 at b0 b1 hB
        clear hb c0 c1 c2
        go_wp2_with (fail)
        go_roundg j
        case measure => have := HJ.out.1; omega
        case rel => exact ⟨q.by 2, b0, b1, hB, by have := HJ.out.1; have := hG.out; omega, HJ.out.2.1.symm.trans HF.out, HJ.out.2.2⟩
      | true =>
        have e : r = q.low := by rw [HR.out, ← HF.out, halveF_id _ _ hq]
        have HL1 : Hid _ := HLO.out q (inB_mono hq (by decide))
        rw [← e] at HL1
        clear e HR HF HI HX HLO HD
        obtain ⟨c0, c1, c2, f0, f1, f2⟩ := b0.out
        go_wp2_with (fail)
        refine Calls.mono (HL1.out _) ?_
        clear HL1 c0 c1 c2 f0 f1 f2
        rintro e V4 ⟨rfl, hb⟩
        obtain ⟨c0, c1, c2, f0, f1, f2⟩ := b1.out.step hb
        have hB : Hid _ := b_step hB.out hb
        go_wp2_with (fail)
        refine bodyPost_ret (v := .agg #[.int .i64 r.x, .int .i64 r.y, .int .i64 r.z]) (by simp [results, Try.results75, go_sem, c0, c1, c2]) rfl ⟨rfl, ?_⟩
        exact set3_below hB.out (by omega) _ _ _
end Go.Proofs.Ytfalniafkambmaa
namespace Go.Proofs.Ytfalniafkambmaa
open Go.RowKit Go.Shelf
set_option linter.unusedVariables false

theorem pt_eq (p q : Pt) : p = q ↔ p.x = q.x ∧ p.y = q.y ∧ p.z = q.z := by cases p; cases q; simp
end Go.Proofs.Ytfalniafkambmaa
namespace Go.Proofs.Ytfalniafkambmaa
open Go.RowKit Go.Shelf
set_option linter.unusedVariables false

/-- Three cells a point, from a block's beginning on. -/
def At (W : World) (g : Nat) (M : List Pt) : Prop := ∀ i, i < M.length → W.cell? ⟨g, i * 3, none⟩ = some (.int .i64 (pt M i).x) ∧ W.cell? ⟨g, i * 3 + 1, none⟩ = some (.int .i64 (pt M i).y) ∧ W.cell? ⟨g, i * 3 + 2, none⟩ = some (.int .i64 (pt M i).z)
theorem At.below {w W : World} {g : Nat} {M : List Pt} (h : At w g M) (hb : Below w.heap.size w W) : At W g M := fun i hi => ⟨c_after hb (h i hi).1, c_after hb (h i hi).2.1, c_after hb (h i hi).2.2⟩
theorem At.grown {w W : World} {g : Nat} {M : List Pt} {row : Option Nat} (h : At w g M) (hg : w.grownBy W row) (hne : row ≠ some g) : At W g M := fun i hi =>
  ⟨hg.cell (h i hi).1 (fun e => hne e.symm), hg.cell (h i hi).2.1 (fun e => hne e.symm), hg.cell (h i hi).2.2 (fun e => hne e.symm)⟩
end Go.Proofs.Ytfalniafkambmaa
namespace Go.Proofs.Ytfalniafkambmaa
open Go.RowKit Go.Shelf
set_option linter.unusedVariables false

theorem Box3.grown {w W : World} {b : Nat} {q : Pt} {row : Option Nat} (h : Box3 w b q) (hg : w.grownBy W row) (hne : row ≠ some b) : Box3 W b q := by
  have hb := hg.block b h.lt (fun e => hne e.symm)
  obtain ⟨c0, c1, c2, f0, f1, f2⟩ := h
  simp only [World.cell?, World.frozen?] at c0 c1 c2 f0 f1 f2
  rw [← hb] at c0 c1 c2 f0 f1 f2
  exact ⟨c0, c1, c2, f0, f1, f2⟩
/-- Two lists of the call's own, and boxes that are none of theirs. -/
structure Two (w0 W : World) (va ve : Value) (A E : List Pt) (bs : List (Nat × Pt)) : Prop where
  ra : W.ownsRow w0.heap.size 23 3 va A.length (fl3 A)
  re : W.ownsRow w0.heap.size 23 3 ve E.length (fl3 E)
  apart : ∀ k, ve.ownBlock = some k → va.ownBlock ≠ some k
  below : Below w0.heap.size w0 W
  box : ∀ x ∈ bs, Box3 W x.1 x.2 ∧ va.ownBlock ≠ some x.1 ∧ ve.ownBlock ≠ some x.1 ∧ w0.heap.size ≤ x.1
theorem Two.start (w0 : World) : Two w0 w0 (.slice none 0 0) (.slice none 0 0) [] [] [] := ⟨World.ownsRow_nil _ _ _ _, World.ownsRow_nil _ _ _ _, (fun _ h => by cases h), Below.refl _ _, (fun _ h => by cases h)⟩
theorem Two.step {w0 W X : World} {va ve : Value} {A E : List Pt} {bs : List (Nat × Pt)} (h : Two w0 W va ve A E bs) (hb : Below W.heap.size W X) : Two w0 X va ve A E bs :=
  ⟨own_below h.ra hb, own_below h.re hb, h.apart, h.below.trans (hb.mono h.below.size), fun x hx => ⟨(h.box x hx).1.step hb, (h.box x hx).2⟩⟩
theorem Two.axis {w0 W X : World} {va ve va' : Value} {A E A' : List Pt} {bs : List (Nat × Pt)} (h : Two w0 W va ve A E bs) (hr : X.ownsRow w0.heap.size 23 3 va' A'.length (fl3 A')) (hg : Grew W X va va') : Two w0 X va' ve A' E bs := by
  obtain ⟨k1, k2⟩ := hg.beside h.re h.apart
  refine ⟨hr, k1, k2, hg.on h.below h.ra h.below.size, fun x hx => ?_⟩
  obtain ⟨b, b1, b2, b3⟩ := h.box x hx
  refine ⟨b.grown hg.grown b1, ?_, b2, b3⟩
  rcases hg.same with e | ⟨k, e, hk⟩
  · rw [e]; exact b1
  · rw [e]; intro e'; cases e'; have := b.lt; omega
theorem Two.swap {w0 W : World} {va ve : Value} {A E : List Pt} {bs : List (Nat × Pt)} (h : Two w0 W va ve A E bs) : Two w0 W ve va E A bs := ⟨h.re, h.ra, fun k e e' => h.apart k e' e, h.below, fun x hx => ⟨(h.box x hx).1, (h.box x hx).2.2.1, (h.box x hx).2.1, (h.box x hx).2.2.2⟩⟩
theorem Two.edge {w0 W X : World} {va ve ve' : Value} {A E E' : List Pt} {bs : List (Nat × Pt)} (h : Two w0 W va ve A E bs) (hr : X.ownsRow w0.heap.size 23 3 ve' E'.length (fl3 E')) (hg : Grew W X ve ve') : Two w0 X va ve' A E' bs := (h.swap.axis hr hg).swap

theorem at_new (w : World) (p q r : Pt) (t : TypeId) : At (w.alloc (.cells #[.int .i64 p.x, .int .i64 p.y, .int .i64 p.z, .int .i64 q.x, .int .i64 q.y, .int .i64 q.z, .int .i64 r.x, .int .i64 r.y, .int .i64 r.z] t)) w.heap.size [p, q, r] := by
  intro i hi
  match i, hi with
  | 0, _ => exact ⟨by simp [pt], by simp [pt], by simp [pt]⟩
  | 1, _ => exact ⟨by simp [pt], by simp [pt], by simp [pt]⟩
  | 2, _ => exact ⟨by simp [pt], by simp [pt], by simp [pt]⟩
theorem axis_len (A : List Pt) (n : Pt) : (withAxisP A n).length ≤ A.length + 1 := by unfold withAxisP; split <;> simp

end Go.Proofs.Ytfalniafkambmaa
namespace Go.Proofs.Ytfalniafkambmaa
open Go.RowKit Go.Shelf
set_option linter.unusedVariables false

def mayP (L : List Pt) : Bool := decide (4 ≤ L.length ∧ L.length ≤ 12) && (L.all (fun p => p.inB 65536) && decide L.Nodup)
def halfOk (n : Int) : Bool := decide (1 ≤ n ∧ n ≤ 65536)
end Go.Proofs.Ytfalniafkambmaa
namespace Go.Proofs.Ytfalniafkambmaa
open Go.RowKit Go.Shelf
set_option linter.unusedVariables false

/-- A shape's numbers. -/
structure Sh where
  kind : Int
  radius : Int
  half : Pt
  pts : List Pt
def Sh.v (s : Sh) (pv : Value) : Value := .agg #[.int .i64 s.kind, .int .i64 s.radius, .int .i64 s.half.x, .int .i64 s.half.y, .int .i64 s.half.z, pv]
def inR (n a b : Int) : Bool := decide (a ≤ n ∧ n ≤ b)
def formP (s : Sh) : Bool :=
  if s.kind = 1 then inR s.radius 1 16384
  else if s.kind = 2 then inR s.radius 1 16384 && halfOk s.half.x
  else if s.kind = 3 then inR s.radius 0 16384 && (halfOk s.half.x && (halfOk s.half.y && halfOk s.half.z))
  else if s.kind = 4 then inR s.radius 0 16384 && mayP s.pts
  else false
def checkP (s : Sh) : Int := if formP s then (if s.kind = 4 ∧ flatP s.pts = true then 51 else 0) else 50
theorem may_parts {L : List Pt} (h : mayP L = true) : 4 ≤ L.length ∧ L.length ≤ 12 ∧ (∀ p ∈ L, p.inB 65536 = true) ∧ L.Nodup := by
  unfold mayP at h
  simp only [Bool.and_eq_true, decide_eq_true_eq, List.all_eq_true] at h
  exact ⟨h.1.1, h.1.2, h.2.1, h.2.2⟩
theorem form_hull {s : Sh} (h : formP s = true) (k : s.kind = 4) : mayP s.pts = true := by
  unfold formP at h
  rw [if_neg (by omega), if_neg (by omega), if_neg (by omega), if_pos k, Bool.and_eq_true] at h
  exact h.2
end Go.Proofs.Ytfalniafkambmaa
namespace Go.Proofs.Ytfalniafkambmaa
open Go.RowKit Go.Shelf
set_option linter.unusedVariables false

def cornersP (h : Pt) : List Pt := [⟨-h.x, -h.y, -h.z⟩, ⟨-h.x, -h.y, h.z⟩, ⟨-h.x, h.y, -h.z⟩, ⟨-h.x, h.y, h.z⟩, ⟨h.x, -h.y, -h.z⟩, ⟨h.x, -h.y, h.z⟩, ⟨h.x, h.y, -h.z⟩, ⟨h.x, h.y, h.z⟩]
def straightP : List Pt := [⟨1, 0, 0⟩, ⟨0, 1, 0⟩, ⟨0, 0, 1⟩]
end Go.Proofs.Ytfalniafkambmaa
namespace Go.Proofs.Ytfalniafkambmaa
open Go.RowKit Go.Shelf
set_option linter.unusedVariables false

def ptsP (s : Sh) : List Pt := if s.kind = 1 then [Pt.O] else if s.kind = 2 then [⟨-s.half.x, 0, 0⟩, ⟨s.half.x, 0, 0⟩] else if s.kind = 3 then cornersP s.half else s.pts
def axesP (s : Sh) : List Pt := if s.kind = 3 then straightP else if s.kind = 4 then (sidesP s.pts).1 else []
def edgesP (s : Sh) : List Pt := if s.kind = 2 then [⟨1, 0, 0⟩] else if s.kind = 3 then straightP else if s.kind = 4 then (sidesP s.pts).2 else []
theorem own_le {w : World} {base base' : Nat} {t : TypeId} {sz n : Nat} {u : Value} {xs : List Value} (h : w.ownsRow base t sz u n xs) (hb : base' ≤ base) : w.ownsRow base' t sz u n xs := Go.Joins.ownsRow_le h hb
/-- Three lists of the call's own. -/
structure Three (w0 W : World) (vp va ve : Value) (P A E : List Pt) : Prop where
  rp : W.ownsRow w0.heap.size 23 3 vp P.length (fl3 P)
  ra : W.ownsRow w0.heap.size 23 3 va A.length (fl3 A)
  re : W.ownsRow w0.heap.size 23 3 ve E.length (fl3 E)
  pa : ∀ k, vp.ownBlock = some k → va.ownBlock ≠ some k
  pe : ∀ k, vp.ownBlock = some k → ve.ownBlock ≠ some k
  ae : ∀ k, va.ownBlock = some k → ve.ownBlock ≠ some k
  below : Below w0.heap.size w0 W
theorem Three.step {w0 W X : World} {vp va ve : Value} {P A E : List Pt} (h : Three w0 W vp va ve P A E) (hb : Below W.heap.size W X) : Three w0 X vp va ve P A E :=
  ⟨own_below h.rp hb, own_below h.ra hb, own_below h.re hb, h.pa, h.pe, h.ae, b_step h.below hb⟩
def set4 (W : World) (b : Nat) (v0 v1 v2 v3 : Value) : World := (((W.setCell ⟨b, 0, none⟩ v0).setCell ⟨b, 1, none⟩ v1).setCell ⟨b, 2, none⟩ v2).setCell ⟨b, 3, none⟩ v3
theorem own_set4 {W : World} {base : Nat} {t : TypeId} {sz n : Nat} {u : Value} {xs : List Value} {b : Nat} (h : W.ownsRow base t sz u n xs) (hne : u.ownBlock ≠ some b) (v0 v1 v2 v3 : Value) : (set4 W b v0 v1 v2 v3).ownsRow base t sz u n xs :=
  ownsRow_setCell_other (ownsRow_setCell_other (ownsRow_setCell_other (ownsRow_setCell_other h hne _) hne _) hne _) hne _
theorem set4_below {n : Nat} {w W : World} {b : Nat} (h : Below n w W) (hb : n ≤ b) (v0 v1 v2 v3 : Value) : Below n w (set4 W b v0 v1 v2 v3) := (((h.setCell hb _).setCell hb _).setCell hb _).setCell hb _
theorem Three.set {w0 W : World} {vp va ve : Value} {P A E : List Pt} {b : Nat} (h : Three w0 W vp va ve P A E) (hb : w0.heap.size ≤ b) (h1 : vp.ownBlock ≠ some b) (h2 : va.ownBlock ≠ some b) (h3 : ve.ownBlock ≠ some b) (v0 v1 v2 v3 : Value) : Three w0 (set4 W b v0 v1 v2 v3) vp va ve P A E :=
  ⟨own_set4 h.rp h1 _ _ _ _, own_set4 h.ra h2 _ _ _ _, own_set4 h.re h3 _ _ _ _, h.pa, h.pe, h.ae, set4_below h.below hb _ _ _ _⟩
theorem three_nil {w0 W : World} (h : Below w0.heap.size w0 W) : Three w0 W (.slice none 0 0) (.slice none 0 0) (.slice none 0 0) [] [] [] :=
  ⟨World.ownsRow_nil _ _ _ _, World.ownsRow_nil _ _ _ _, World.ownsRow_nil _ _ _ _, (fun _ h => by cases h), (fun _ h => by cases h), (fun _ h => by cases h), h⟩
/-- Cells of a block. -/
def Cells (W : World) (b : Nat) (vs : List Value) : Prop := ∀ i v, vs[i]? = some v → W.cell? ⟨b, i, none⟩ = some v ∧ W.frozen? ⟨b, i, none⟩ = false
theorem Cells.step {A B : World} {b : Nat} {vs : List Value} (h : Cells A b vs) (hb : Below A.heap.size A B) : Cells B b vs := fun i v e => ⟨c_after hb (h i v e).1, f_after hb (h i v e).1 (h i v e).2⟩
theorem Cells.new (w : World) (vs : List Value) (t : TypeId) : Cells (w.alloc (.cells vs.toArray t)) w.heap.size vs := fun i v e => ⟨by simp [e], by simp [go_sem]⟩
theorem Cells.set {W : World} {b : Nat} {vs : List Value} (h : Cells W b vs) (k : Nat) (u : Value) (hk : k < vs.length) : Cells (W.setCell ⟨b, k, none⟩ u) b (vs.set k u) := by
  intro i v e
  by_cases hik : i = k
  · subst hik
    rw [List.getElem?_set_self hk] at e
    cases e
    obtain ⟨h1, h2⟩ := h i _ (List.getElem?_eq_getElem hk)
    exact ⟨by simp [go_sem, h1], by simp [go_sem, h2]⟩
  · rw [List.getElem?_set_ne (Ne.symm hik)] at e
    obtain ⟨h1, h2⟩ := h i v e
    exact ⟨by simp [go_sem, h1], by simp [go_sem, h2]⟩
theorem Cells.set4 {W : World} {b : Nat} {x0 x1 x2 x3 : Value} (h : Cells W b [x0, x1, x2, x3]) (v0 v1 v2 v3 : Value) : Cells (set4 W b v0 v1 v2 v3) b [v0, v1, v2, v3] := (((h.set 0 v0 (by simp)).set 1 v1 (by simp)).set 2 v2 (by simp)).set 3 v3 (by simp)
theorem own_one {w : World} {base : Nat} {p : Pt} (hb : base ≤ w.heap.size) : (w.alloc (.cells #[.int .i64 p.x, .int .i64 p.y, .int .i64 p.z] 23)).ownsRow base 23 3 (.slice (some ⟨w.heap.size, 0, none⟩) 1 1) [p].length (fl3 [p]) :=
  World.ownsRow_lit (e := 23) (size := 3) w #[.int .i64 p.x, .int .i64 p.y, .int .i64 p.z] 1 hb (by unfold maxLen; omega) rfl
theorem own_two {w : World} {base : Nat} {p q : Pt} (hb : base ≤ w.heap.size) : (w.alloc (.cells #[.int .i64 p.x, .int .i64 p.y, .int .i64 p.z, .int .i64 q.x, .int .i64 q.y, .int .i64 q.z] 23)).ownsRow base 23 3 (.slice (some ⟨w.heap.size, 0, none⟩) 2 2) [p, q].length (fl3 [p, q]) :=
  World.ownsRow_lit (e := 23) (size := 3) w #[.int .i64 p.x, .int .i64 p.y, .int .i64 p.z, .int .i64 q.x, .int .i64 q.y, .int .i64 q.z] 2 hb (by unfold maxLen; omega) rfl

theorem three_ball {w0 W : World} (h : Below w0.heap.size w0 W) (n : Nat) (hn : n = W.heap.size) : Three w0 (W.alloc (.cells #[.int .i64 0, .int .i64 0, .int .i64 0] 23)) (.slice (some ⟨n, 0, none⟩) 1 1) (.slice none 0 0) (.slice none 0 0) [Pt.O] [] [] := by
  subst hn
  exact ⟨own_one (p := Pt.O) h.size, World.ownsRow_nil _ _ _ _, World.ownsRow_nil _ _ _ _, (fun _ _ h => by cases h), (fun _ _ h => by cases h), (fun _ h => by cases h), b_step h (n_after _ _)⟩
theorem three_capsule {w0 W : World} (h : Below w0.heap.size w0 W) (x : Int) (n m : Nat) (hn : n = W.heap.size) (hm : m = W.heap.size + 1) : Three w0 ((W.alloc (.cells #[.int .i64 (-x), .int .i64 0, .int .i64 0, .int .i64 x, .int .i64 0, .int .i64 0] 23)).alloc (.cells #[.int .i64 1, .int .i64 0, .int .i64 0] 23)) (.slice (some ⟨n, 0, none⟩) 2 2) (.slice none 0 0) (.slice (some ⟨m, 0, none⟩) 1 1) [⟨-x, 0, 0⟩, ⟨x, 0, 0⟩] [] [⟨1, 0, 0⟩] := by
  subst hn hm
  have hs : w0.heap.size ≤ (W.alloc (.cells #[.int .i64 (-x), .int .i64 0, .int .i64 0, .int .i64 x, .int .i64 0, .int .i64 0] 23)).heap.size := by have := h.size; simp; omega
  have k2 := own_one (w := W.alloc (.cells #[.int .i64 (-x), .int .i64 0, .int .i64 0, .int .i64 x, .int .i64 0, .int .i64 0] 23)) (base := w0.heap.size) (p := ⟨1, 0, 0⟩) hs
  rw [World.size_alloc] at k2
  refine ⟨own_below (own_two (p := ⟨-x, 0, 0⟩) (q := ⟨x, 0, 0⟩) h.size) (n_after _ _), World.ownsRow_nil _ _ _ _, k2, (fun _ _ h => by cases h), (fun k h e => ?_), (fun _ h => by cases h), b_step h (b_step (n_after _ _) (n_after _ _))⟩
  simp only [Value.ownBlock, Option.some.injEq] at h e
  omega
theorem Three.put {w0 W : World} {vp va ve : Value} {P A E : List Pt} {b : Nat} (h : Three w0 W vp va ve P A E) (hb : w0.heap.size ≤ b) (h1 : vp.ownBlock ≠ some b) (h2 : va.ownBlock ≠ some b) (h3 : ve.ownBlock ≠ some b) (k : Nat) (v : Value) : Three w0 (W.setCell ⟨b, k, none⟩ v) vp va ve P A E :=
  ⟨ownsRow_setCell_other h.rp h1 _, ownsRow_setCell_other h.ra h2 _, ownsRow_setCell_other h.re h3 _, h.pa, h.pe, h.ae, h.below.setCell hb _⟩
end Go.Proofs.Ytfalniafkambmaa
namespace Go.Proofs.Ytfalniafkambmaa
open Go.RowKit Go.Shelf
set_option linter.unusedVariables false

def highI (a b : Int) : Int := if b > a then b else a
def Pt.plus (p q : Pt) : Pt := ⟨IntKind.i64.wrap (p.x + q.x), IntKind.i64.wrap (p.y + q.y), IntKind.i64.wrap (p.z + q.z)⟩
def Pt.greater (p q : Pt) : Pt := ⟨highI p.x q.x, highI p.y q.y, highI p.z q.z⟩
def Pt.le (p q : Pt) : Bool := decide (p.x ≤ q.x ∧ p.y ≤ q.y ∧ p.z ≤ q.z)
/-- A box. -/
structure Bx where
  lo : Pt
  hi : Pt
def Bx.v (b : Bx) : Value := .agg #[.int .i64 b.lo.x, .int .i64 b.lo.y, .int .i64 b.lo.z, .int .i64 b.hi.x, .int .i64 b.hi.y, .int .i64 b.hi.z]
end Go.Proofs.Ytfalniafkambmaa
