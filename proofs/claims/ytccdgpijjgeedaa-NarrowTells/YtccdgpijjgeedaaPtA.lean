/- Points of grains in memory: lists of them that are read, and lists of the call's own. -/
import Derived.RangeFuncBox
import Derived.Shelf.Abstract
import Derived.WalkKit
import Derived.OwnWalkIn
import Derived.TacticsInMore
import Derived.LoopNIn
import Derived.LoopIn
import Derived.LoopTactic
import Derived.ProofKit
import Derived.Handy
import Derived.Laws.MakeOwn
import Derived.Laws.OwnMore
import Derived.Maps.AppendAt
import Derived.Deep.RegionWith
import Derived.Deep.QuietTactic
import Derived.BigQuiet
import Derived.Deep.CutBlock
import Derived.Deep.CutRange
import Derived.Deep.LoopGhost
import Derived.Lib.SmallJoins
import Derived.Test.YtccdgpijjgeedaaSMath
import Derived.Test.YtccdgpijjgeedaaRegV
import Derived.Test.YtccdgpijjgeedaaProg
namespace Go.Proofs.Ytccdgpijjgeedaa
open Go.RowKit Go.Shelf
set_option linter.unusedVariables false

def Pt.v (p : Pt) : Value := .agg #[.int .i64 p.x, .int .i64 p.y, .int .i64 p.z]
theorem pt_v (x y z : Int) : Value.agg #[.int .i64 x, .int .i64 y, .int .i64 z] = Pt.v ⟨x, y, z⟩ := rfl
def fl3 : List Pt → List Value
  | [] => []
  | p :: r => .int .i64 p.x :: .int .i64 p.y :: .int .i64 p.z :: fl3 r
theorem fl3_length : ∀ L : List Pt, (fl3 L).length = L.length * 3
  | [] => rfl
  | p :: r => by simp only [fl3, List.length_cons, fl3_length r]; omega
theorem fl3_append : ∀ A B : List Pt, fl3 (A ++ B) = fl3 A ++ fl3 B
  | [], B => rfl
  | p :: r, B => by simp [fl3, fl3_append r B]
theorem fl3_at : ∀ (L : List Pt) (i : Nat), i < L.length → (fl3 L)[i * 3]? = some (.int .i64 (L[i]?.getD default).x) ∧ (fl3 L)[i * 3 + 1]? = some (.int .i64 (L[i]?.getD default).y) ∧ (fl3 L)[i * 3 + 2]? = some (.int .i64 (L[i]?.getD default).z)
  | [], i, h => by simp at h
  | p :: r, 0, _ => ⟨rfl, rfl, rfl⟩
  | p :: r, i + 1, h => by
    have := fl3_at r i (by simpa using h)
    rw [show (i + 1) * 3 = i * 3 + 3 by omega]
    simpa [fl3] using this
theorem fl3_one (L : List Pt) : ∀ u ∈ fl3 L, u.oneCell' = true := by
  induction L with
  | nil => intro u hu; cases hu
  | cons p r ih =>
    intro u hu
    simp only [fl3, List.mem_cons] at hu
    rcases hu with rfl | rfl | rfl | hu
    · rfl
    · rfl
    · rfl
    · exact ih u hu
theorem point_info : (Try.prog.info? 26).map (fun i => (i.zero, i.size, i.bytes)) = some (some (.agg #[.int .i64 0, .int .i64 0, .int .i64 0]), 3, 24) := by kernel_rfl

theorem b_step {w w1 w2 : World} (h1 : Below w.heap.size w w1) (h2 : Below w1.heap.size w1 w2) : Below w.heap.size w w2 := h1.trans (h2.mono h1.size)
theorem c_after {w w1 : World} {p : Addr} {v : Value} (hb : Below w.heap.size w w1) (hc : w.cell? p = some v) : w1.cell? p = some v := (hb.cell (World.block_lt_of_cell? _ _ hc)).trans hc
theorem n_after (w : World) (o : Obj) : Below w.heap.size w (w.alloc o) := (Below.refl _ _).alloc (Nat.le_refl _) _

theorem f_after {w w1 : World} {p : Addr} {v : Value} (hb : Below w.heap.size w w1) (hc : w.cell? p = some v) (hf : w.frozen? p = false) : w1.frozen? p = false := (hb.frozen (World.block_lt_of_cell? _ _ hc)).trans hf
theorem early9 {p : Bool} {X Y : Prop} (h : (p = false ∧ X) ∨ (p = true ∧ Y)) (hp : p = false) : X := by
  rcases h with h | h
  · exact h.2
  · rw [hp] at h; cases h.1
theorem late9 {p : Bool} {X Y : Prop} (h : (p = false ∧ X) ∨ (p = true ∧ Y)) (hp : p = true) : Y := by
  rcases h with h | h
  · rw [hp] at h; cases h.1
  · exact h.2
theorem bcell {W w1 : World} (hb : Below W.heap.size W w1) : (∀ b o, b < W.heap.size → w1.cell? ⟨b, o, none⟩ = W.cell? ⟨b, o, none⟩) ∧ (∀ b o, b < W.heap.size → w1.frozen? ⟨b, o, none⟩ = W.frozen? ⟨b, o, none⟩) :=
  ⟨fun b o h => hb.cell (p := ⟨b, o, none⟩) h, fun b o h => hb.frozen (p := ⟨b, o, none⟩) h⟩
theorem w64 {n : Int} (h1 : -9223372036854775808 ≤ n) (h2 : n ≤ 9223372036854775807) : wrap64 n = n := by unfold wrap64; omega

/-- A point's box. -/
structure Box3 (W : World) (b : Nat) (q : Pt) : Prop where
  c0 : W.cell? ⟨b, 0, none⟩ = some (.int .i64 q.x)
  c1 : W.cell? ⟨b, 1, none⟩ = some (.int .i64 q.y)
  c2 : W.cell? ⟨b, 2, none⟩ = some (.int .i64 q.z)
  f0 : W.frozen? ⟨b, 0, none⟩ = false
  f1 : W.frozen? ⟨b, 1, none⟩ = false
  f2 : W.frozen? ⟨b, 2, none⟩ = false
theorem Box3.step {A B : World} {b : Nat} {q : Pt} (h : Box3 A b q) (hb : Below A.heap.size A B) : Box3 B b q :=
  ⟨c_after hb h.c0, c_after hb h.c1, c_after hb h.c2, f_after hb h.c0 h.f0, f_after hb h.c1 h.f1, f_after hb h.c2 h.f2⟩
theorem Box3.lt {W : World} {b : Nat} {q : Pt} (h : Box3 W b q) : b < W.heap.size := World.block_lt_of_cell? _ _ h.c0
theorem Box3.new (w : World) (x y z : Int) (t : TypeId) : Box3 (w.alloc (.cells #[.int .i64 x, .int .i64 y, .int .i64 z] t)) w.heap.size ⟨x, y, z⟩ :=
  ⟨by simp, by simp, by simp, by simp [go_sem], by simp [go_sem], by simp [go_sem]⟩
def set3 (W : World) (b : Nat) (x y z : Int) : World := ((W.setCell ⟨b, 0, none⟩ (.int .i64 x)).setCell ⟨b, 1, none⟩ (.int .i64 y)).setCell ⟨b, 2, none⟩ (.int .i64 z)
theorem Box3.set {W : World} {b : Nat} {q : Pt} (h : Box3 W b q) (x y z : Int) : Box3 (set3 W b x y z) b ⟨x, y, z⟩ := by
  obtain ⟨c0, c1, c2, f0, f1, f2⟩ := h
  unfold set3
  exact ⟨by simp [go_sem, c0], by simp [go_sem, c1], by simp [go_sem, c2], by simp [go_sem, f0], by simp [go_sem, f1], by simp [go_sem, f2]⟩
theorem Box3.other {W : World} {b b' : Nat} {q : Pt} (h : Box3 W b q) (hne : b' ≠ b) (x y z : Int) : Box3 (set3 W b' x y z) b q := by
  obtain ⟨c0, c1, c2, f0, f1, f2⟩ := h
  unfold set3
  have hne' : ¬ b = b' := fun e => hne e.symm
  exact ⟨by simp [go_sem, c0], by simp [go_sem, c1], by simp [go_sem, c2], by simp [go_sem, f0], by simp [go_sem, f1], by simp [go_sem, f2]⟩
theorem set3_below {n : Nat} {w W : World} {b : Nat} (h : Below n w W) (hb : n ≤ b) (x y z : Int) : Below n w (set3 W b x y z) := ((h.setCell hb _).setCell hb _).setCell hb _
theorem set3_size (W : World) (b : Nat) (x y z : Int) : (set3 W b x y z).heap.size = W.heap.size := by simp [set3, World.setCell]

/-- A list of points that can be read. -/
structure Lies (W : World) (v : Value) (L : List Pt) : Prop where
  form : ∃ o cap, v = .slice o L.length cap ∧ L.length ≤ cap ∧ cap ≤ 9223372036854775807 ∧ ∀ i, i < L.length → ∃ g off, o = some ⟨g, off, none⟩ ∧ W.cell? ⟨g, off + i * 3, none⟩ = some (.int .i64 (pt L i).x) ∧ W.cell? ⟨g, off + i * 3 + 1, none⟩ = some (.int .i64 (pt L i).y) ∧ W.cell? ⟨g, off + i * 3 + 2, none⟩ = some (.int .i64 (pt L i).z)
theorem Lies.of_row {W : World} {base : Nat} {v : Value} {L : List Pt} (h : W.ownsRow base 26 3 v L.length (fl3 L)) : Lies W v L := by
  refine ⟨?_⟩
  rcases h.2 with ⟨rfl, h0⟩ | ⟨g, cap, cur, rfl, hb, hg, h1, h2, h3, h4⟩
  · exact ⟨none, 0, by rw [h0], by omega, by omega, fun i hi => by omega⟩
  · refine ⟨_, cap, rfl, h1, by unfold maxLen at h2; omega, fun i hi => ⟨g, 0, rfl, ?_, ?_, ?_⟩⟩
    · rw [Nat.zero_add]; exact (h.cellAt (i * 3) (by omega)).trans (fl3_at L i hi).1
    · rw [Nat.zero_add]; exact (h.cellAt (i * 3 + 1) (by omega)).trans (fl3_at L i hi).2.1
    · rw [Nat.zero_add]; exact (h.cellAt (i * 3 + 2) (by omega)).trans (fl3_at L i hi).2.2
theorem Lies.below {w W : World} {v : Value} {L : List Pt} (h : Lies w v L) (hb : Below w.heap.size w W) : Lies W v L := by
  obtain ⟨o, cap, e, h1, h2, h3⟩ := h.form
  refine ⟨o, cap, e, h1, h2, fun i hi => ?_⟩
  obtain ⟨g, off, e, a, b, c⟩ := h3 i hi
  exact ⟨g, off, e, c_after hb a, c_after hb b, c_after hb c⟩
theorem Lies.cells {w : World} {v : Value} {L : List Pt} (h : Lies w v L) : ∃ o cap, v = .slice o L.length cap ∧ L.length ≤ cap ∧ cap ≤ 9223372036854775807 ∧ (L = [] ∨ ∃ g off, o = some ⟨g, off, none⟩ ∧ ∀ j u, (fl3 L)[j]? = some u → w.cell? ⟨g, off + j, none⟩ = some u) := by
  obtain ⟨o, cap, e, h1, h2, h3⟩ := h.form
  refine ⟨o, cap, e, h1, h2, ?_⟩
  by_cases h0 : L.length = 0
  · exact Or.inl (List.length_eq_zero_iff.1 h0)
  · right
    obtain ⟨g, off, rfl, _⟩ := h3 0 (by omega)
    refine ⟨g, off, rfl, fun j u hj => ?_⟩
    have hl : j < L.length * 3 := by rw [← fl3_length]; exact (List.getElem?_eq_some_iff.1 hj).1
    obtain ⟨a0, a1, a2⟩ := fl3_at L (j / 3) (by omega)
    obtain ⟨g', off', e', b0, b1, b2⟩ := h3 (j / 3) (by omega)
    simp only [Option.some.injEq, Addr.mk.injEq, and_true] at e'
    obtain ⟨rfl, rfl⟩ := e'
    have : j % 3 = 0 ∨ j % 3 = 1 ∨ j % 3 = 2 := by omega
    rcases this with e | e | e
    · have ej : j / 3 * 3 = j := by omega
      rw [ej] at a0 b0
      rw [a0] at hj
      rw [← hj]; exact b0
    · have ej : j / 3 * 3 + 1 = j := by omega
      rw [ej] at a1
      rw [show off + j / 3 * 3 + 1 = off + j by omega] at b1
      rw [a1] at hj
      rw [← hj]; exact b1
    · have ej : j / 3 * 3 + 2 = j := by omega
      rw [ej] at a2
      rw [show off + j / 3 * 3 + 2 = off + j by omega] at b2
      rw [a2] at hj
      rw [← hj]; exact b2
/-- A list of the call's own. -/
structure Row (w V : World) (u : Value) (M : List Pt) : Prop where
  row : V.ownsRow w.heap.size 26 3 u M.length (fl3 M)
  below : Below w.heap.size w V
theorem Row.step {w A B : World} {u : Value} {M : List Pt} (h : Row w A u M) (hb : Below A.heap.size A B) : Row w B u M := by
  refine ⟨?_, h.below.trans (hb.mono h.below.size)⟩
  cases e : u.ownBlock with
  | none => exact h.row.kept ⟨hb.os, hb.tape, hb.output, hb.size, fun k hk _ => hb.block k hk⟩ (Or.inl e) (row := none)
  | some k => exact h.row.kept ⟨hb.os, hb.tape, hb.output, hb.size, fun k hk _ => hb.block k hk⟩ (Or.inr (by rw [e]; simp)) (row := none)
theorem Row.lies {w V : World} {u : Value} {M : List Pt} (h : Row w V u M) : Lies V u M := Lies.of_row h.row
theorem Row.start (w : World) : Row w w (.slice none 0 0) [] := ⟨World.ownsRow_nil _ _ _ _, Below.refl _ _⟩
theorem Row.app {w A B : World} {u u' : Value} {M : List Pt} {p : Pt} (h : Row w A u M) (hr : B.ownsRow w.heap.size 26 3 u' (M.length + 1) (fl3 M ++ [.int .i64 p.x, .int .i64 p.y, .int .i64 p.z])) (hg : A.grownBy B u.ownBlock) : Row w B u' (M ++ [p]) := by
  refine ⟨?_, ?_⟩
  · rw [fl3_append, List.length_append]; exact hr
  · exact h.below.grown hg h.below.size (fun k e => (h.row.lt k e).1)
theorem news_at {w : World} {vb : Nat} {x y z : Value} {t : TypeId} (h : w.heap[vb]? = some (.cells #[x, y, z] t (0, 0))) : ∀ j u, [x, y, z][j]? = some u → w.cell? ((⟨vb, 0, none⟩ : Addr).add j) = some u := by
  intro j u hj
  have ad : (⟨vb, 0, none⟩ : Addr).add j = ⟨vb, j, none⟩ := by unfold Addr.add; split <;> simp_all
  rw [ad]
  match j, hj with
  | 0, hj => simp at hj; subst hj; simp [World.cell?, h]
  | 1, hj => simp at hj; subst hj; simp [World.cell?, h]
  | 2, hj => simp at hj; subst hj; simp [World.cell?, h]
theorem below_grown {w W : World} (h : Below w.heap.size w W) (row : Option Nat) : w.grownBy W row := ⟨h.os, h.tape, h.output, h.size, fun k hk _ => h.block k hk⟩
theorem G.trans {a b c : World} {row : Option Nat} (h : a.grownBy b row) (k : b.grownBy c row) : a.grownBy c row := ⟨k.os.trans h.os, k.tape.trans h.tape, k.output.trans h.output, Nat.le_trans h.size k.size, fun i hi hn => (k.block i (Nat.lt_of_lt_of_le hi h.size) hn).trans (h.block i hi hn)⟩
theorem own_below {A W : World} {base : Nat} {t : TypeId} {sz n : Nat} {u : Value} {xs : List Value} (h : A.ownsRow base t sz u n xs) (hb : Below A.heap.size A W) : W.ownsRow base t sz u n xs := by
  cases e : u.ownBlock with
  | none => exact h.kept (below_grown hb none) (Or.inl e)
  | some k => exact h.kept (below_grown hb none) (Or.inr (by rw [e]; simp))
/-- What a call does that appends to the list u. -/
structure Grew (w W : World) (u u' : Value) : Prop where
  grown : w.grownBy W u.ownBlock
  same : u'.ownBlock = u.ownBlock ∨ ∃ k, u'.ownBlock = some k ∧ w.heap.size ≤ k
theorem Grew.refl (w : World) (u : Value) : Grew w w u u := ⟨below_grown (Below.refl _ _) _, Or.inl rfl⟩
theorem Grew.below {w W : World} (hb : Below w.heap.size w W) (u : Value) : Grew w W u u := ⟨below_grown hb _, Or.inl rfl⟩
theorem Grew.trans {w W X : World} {u v x : Value} (h : Grew w W u v) (k : Grew W X v x) : Grew w X u x := by
  obtain ⟨h1, h2⟩ := h
  obtain ⟨k1, k2⟩ := k
  refine ⟨⟨k1.os.trans h1.os, k1.tape.trans h1.tape, k1.output.trans h1.output, Nat.le_trans h1.size k1.size, fun i hi hn => ?_⟩, ?_⟩
  · refine (k1.block i (Nat.lt_of_lt_of_le hi h1.size) ?_).trans (h1.block i hi hn)
    rcases h2 with e | ⟨j, e, hj⟩
    · rw [e]; exact hn
    · rw [e]; intro e'; cases e'; omega
  · rcases k2 with e | ⟨j, e, hj⟩
    · rw [e]
      rcases h2 with e | ⟨j, e, hj⟩
      · exact Or.inl e
      · exact Or.inr ⟨j, e, hj⟩
    · exact Or.inr ⟨j, e, Nat.le_trans h1.size hj⟩
theorem Grew.on {w0 w W : World} {u u' : Value} {base : Nat} {t : TypeId} {sz n : Nat} {xs : List Value} (h : Grew w W u u') (hb : Below base w0 w) (ho : w.ownsRow base t sz u n xs) (hB : base ≤ w.heap.size) : Below base w0 W := hb.grown h.grown hB (fun k e => (ho.lt k e).1)
/-- A list beside the one that grew. -/
theorem Grew.beside {w W : World} {u u' x : Value} {base : Nat} {t : TypeId} {sz n : Nat} {xs : List Value} (h : Grew w W u u') (ho : w.ownsRow base t sz x n xs) (hne : ∀ k, x.ownBlock = some k → u.ownBlock ≠ some k) :
    W.ownsRow base t sz x n xs ∧ ∀ k, x.ownBlock = some k → u'.ownBlock ≠ some k := by
  refine ⟨?_, fun k e e' => ?_⟩
  · cases e : x.ownBlock with
    | none => exact ho.kept h.grown (Or.inl e)
    | some k => exact ho.kept h.grown (Or.inr (by rw [e]; exact fun e' => hne k e e'.symm))
  · rcases h.same with s | ⟨j, s, hj⟩
    · rw [s] at e'; exact hne k e e'
    · rw [s] at e'; cases e'; have := (ho.lt k e).2; omega
end Go.Proofs.Ytccdgpijjgeedaa
