/- A queue's ring in memory; lists of events that are read. -/
import Derived.RangeFuncBox
import Derived.Shelf.Abstract
import Derived.WalkKit
import Derived.OwnWalkIn
import Derived.TacticsInMore
import Derived.LoopNIn
import Derived.LoopIn
import Derived.LoopTactic
import Derived.ProofKit
import Derived.Handy
import Derived.Laws.MakeOwn
import Derived.Laws.OwnMore
import Derived.Maps.AppendAt
import Derived.Deep.RegionWith
import Derived.Deep.QuietTactic
import Derived.BigQuiet
import Derived.Deep.CutBlock
import Derived.Deep.CutRange
import Derived.Deep.LoopGhost
import Derived.Lib.SmallJoins
import Derived.Test.YtbbmjfaflcbimaaEvM
namespace Go.Proofs.Ytbbmjfaflcbimaa
open Go.RowKit Go.Shelf
set_option linter.unusedVariables false

theorem ev_info : (Try.prog.info? 37).map (fun i => (i.zero, i.size, i.bytes)) = some (some (.agg #[.int .i64 0, .int .i64 0, .int .i64 0]), 3, 24) := by kernel_rfl
theorem z_after {w w1 : World} {p : Addr} {v : Value} (hb : Below w.heap.size w w1) (hc : w.cell? p = some v) : w1.cell? p = some v := (hb.cell (World.block_lt_of_cell? _ _ hc)).trans hc
theorem z_froz {w w1 : World} {b : Nat} (hb : Below w.heap.size w w1) (hl : b < w.heap.size) (hf : ∀ o, w.frozen? ⟨b, o, none⟩ = false) : ∀ o, w1.frozen? ⟨b, o, none⟩ = false := fun o => (hb.frozen (p := ⟨b, o, none⟩) hl).trans (hf o)
theorem z_step {w w1 w2 : World} (h1 : Below w.heap.size w w1) (h2 : Below w1.heap.size w1 w2) : Below w.heap.size w w2 := h1.trans (h2.mono h1.size)
theorem z_grown {w W : World} (h : Below w.heap.size w W) (row : Option Nat) : w.grownBy W row := ⟨h.os, h.tape, h.output, h.size, fun k hk _ => h.block k hk⟩
theorem z_own {A W : World} {base : Nat} {t : TypeId} {sz n : Nat} {u : Value} {xs : List Value} (h : A.ownsRow base t sz u n xs) (hb : Below A.heap.size A W) : W.ownsRow base t sz u n xs := by
  cases e : u.ownBlock with
  | none => exact h.kept (z_grown hb none) (Or.inl e)
  | some k => exact h.kept (z_grown hb none) (Or.inr (by rw [e]; simp))
theorem z_add (g off j : Nat) : (⟨g, off, none⟩ : Addr).add j = ⟨g, off + j, none⟩ := by unfold Addr.add; split <;> simp_all

/-- All blocks stay but two. -/
structure Two2 (w W : World) (p q : Nat) : Prop where
  os : W.os = w.os
  tape : W.tape = w.tape
  output : W.output = w.output
  size : w.heap.size ≤ W.heap.size
  block : ∀ k, k < w.heap.size → k ≠ p → k ≠ q → W.heap[k]? = w.heap[k]?
theorem Two2.refl (w : World) (p q : Nat) : Two2 w w p q := ⟨rfl, rfl, rfl, Nat.le_refl _, fun _ _ _ _ => rfl⟩
theorem Two2.of_below {w W : World} (h : Below w.heap.size w W) (p q : Nat) : Two2 w W p q := ⟨h.os, h.tape, h.output, h.size, fun k hk _ _ => h.block k hk⟩
theorem Two2.trans {a b c : World} {p q : Nat} (h : Two2 a b p q) (k : Two2 b c p q) : Two2 a c p q := ⟨k.os.trans h.os, k.tape.trans h.tape, k.output.trans h.output, Nat.le_trans h.size k.size, fun i hi h1 h2 => (k.block i (Nat.lt_of_lt_of_le hi h.size) h1 h2).trans (h.block i hi h1 h2)⟩
theorem Two2.then {a b c : World} {p q : Nat} (h : Two2 a b p q) (k : Below b.heap.size b c) : Two2 a c p q := h.trans (Two2.of_below k p q)
theorem Two2.store {a b : World} {p q : Nat} (h : Two2 a b p q) (x o : Nat) (u : Value) (hx : x = p ∨ x = q) : Two2 a (b.setCell ⟨x, o, none⟩ u) p q := ⟨h.os, h.tape, h.output, by simpa [World.setCell] using h.size, fun i hi h1 h2 => (Below.heap_setCell _ _ _ i (by rcases hx with rfl | rfl <;> assumption)).trans (h.block i hi h1 h2)⟩
theorem Two2.new {a b : World} {p q : Nat} (h : Two2 a b p q) (x : Addr) (u : Value) (hx : a.heap.size ≤ x.block) : Two2 a (b.setCell x u) p q := ⟨h.os, h.tape, h.output, by simpa [World.setCell] using h.size, fun i hi h1 h2 => (Below.heap_setCell _ _ _ i (by omega)).trans (h.block i hi h1 h2)⟩
theorem Two2.below {n : Nat} {w a b : World} {p q : Nat} (h : Below n w a) (hn : n ≤ a.heap.size) (hp : n ≤ p) (hq : n ≤ q) (k : Two2 a b p q) : Below n w b :=
  ⟨k.os.trans h.os, k.tape.trans h.tape, k.output.trans h.output, Nat.le_trans h.size k.size, fun i hi => (k.block i (Nat.lt_of_lt_of_le hi hn) (by omega) (by omega)).trans (h.block i hi)⟩
theorem Two2.cell {w W : World} {p q : Nat} (h : Two2 w W p q) {a : Addr} {v : Value} (hc : w.cell? a = some v) (h1 : a.block ≠ p) (h2 : a.block ≠ q) : W.cell? a = some v :=
  (World.cell?_of_block (h.block a.block (World.block_lt_of_cell? _ _ hc) h1 h2)).trans hc
theorem Two2.froz {w W : World} {p q : Nat} (h : Two2 w W p q) {a : Addr} (hl : a.block < w.heap.size) (h1 : a.block ≠ p) (h2 : a.block ≠ q) : W.frozen? a = w.frozen? a :=
  World.frozen?_of_block (h.block a.block hl h1 h2)
theorem Two2.own {A W : World} {p q base : Nat} {t : TypeId} {sz n : Nat} {u : Value} {xs : List Value} (hg : Two2 A W p q) (h : A.ownsRow base t sz u n xs) (h1 : u.ownBlock ≠ some p) (h2 : u.ownBlock ≠ some q) : W.ownsRow base t sz u n xs := by
  refine ⟨h.1, ?_⟩
  rcases h.2 with a | ⟨g, cap, cur, rfl, a1, a2, a3⟩
  · exact Or.inl a
  · have hg' : g < A.heap.size := (Array.getElem?_eq_some_iff.1 a2).1
    exact Or.inr ⟨g, cap, cur, rfl, a1, (hg.block g hg' (fun e => h1 (by rw [← e]; rfl)) (fun e => h2 (by rw [← e]; rfl))).trans a2, a3⟩

/-- Events that can be read. -/
structure LiesE (W : World) (v : Value) (L : List Ev) : Prop where
  form : ∃ o cap, v = .slice o L.length cap ∧ L.length ≤ cap ∧ cap ≤ 9223372036854775807 ∧ ∀ i, i < L.length → ∃ g off, o = some ⟨g, off, none⟩ ∧ W.cell? ⟨g, off + i * 3, none⟩ = some (.int .i64 (evAt L i).k) ∧ W.cell? ⟨g, off + i * 3 + 1, none⟩ = some (.int .i64 (evAt L i).a) ∧ W.cell? ⟨g, off + i * 3 + 2, none⟩ = some (.int .i64 (evAt L i).b)
theorem LiesE.below {w W : World} {v : Value} {L : List Ev} (h : LiesE w v L) (hb : Below w.heap.size w W) : LiesE W v L := by
  obtain ⟨o, cap, e, h1, h2, h3⟩ := h.form
  refine ⟨o, cap, e, h1, h2, fun i hi => ?_⟩
  obtain ⟨g, off, e, a, b, c⟩ := h3 i hi
  exact ⟨g, off, e, z_after hb a, z_after hb b, z_after hb c⟩
/-- It lies in none of two blocks. -/
def Far (v : Value) (p q : Nat) : Prop := ∀ g off n c, v = .slice (some ⟨g, off, none⟩) n c → g ≠ p ∧ g ≠ q
theorem LiesE.two {w W : World} {v : Value} {L : List Ev} {p q : Nat} (h : LiesE w v L) (hf : Far v p q) (hb : Two2 w W p q) : LiesE W v L := by
  obtain ⟨o, cap, e, h1, h2, h3⟩ := h.form
  refine ⟨o, cap, e, h1, h2, fun i hi => ?_⟩
  obtain ⟨g, off, e', a, b, c⟩ := h3 i hi
  obtain ⟨n1, n2⟩ := hf g off L.length cap (by rw [e, e'])
  exact ⟨g, off, e', hb.cell a n1 n2, hb.cell b n1 n2, hb.cell c n1 n2⟩
theorem LiesE.of_row {W : World} {base : Nat} {t : TypeId} {v : Value} {L : List Ev} (h : W.ownsRow base t 3 v L.length (evs L)) : LiesE W v L := by
  refine ⟨?_⟩
  rcases h.2 with ⟨rfl, h0⟩ | ⟨g, cap, cur, rfl, hb, hg, h1, h2, h3, h4⟩
  · exact ⟨none, 0, by rw [h0], by omega, by omega, fun i hi => by omega⟩
  · refine ⟨_, cap, rfl, h1, by unfold maxLen at h2; omega, fun i hi => ⟨g, 0, rfl, ?_⟩⟩
    obtain ⟨a, b, c⟩ := evs_at L i hi
    rw [Nat.zero_add]
    exact ⟨(h.cellAt _ (by omega)).trans a, (h.cellAt _ (by omega)).trans b, (h.cellAt _ (by omega)).trans c⟩
theorem LiesE.nil (W : World) : LiesE W (.slice none 0 0) [] := ⟨none, 0, rfl, by simp, by omega, fun k hk => by simp at hk⟩
theorem LiesE.len {W : World} {v : Value} {L : List Ev} (h : LiesE W v L) : ∃ o cap, v = .slice o L.length cap ∧ L.length ≤ 9223372036854775807 := by
  obtain ⟨o, cap, e, h1, h2, h3⟩ := h.form
  exact ⟨o, cap, e, by omega⟩
theorem LiesE.cells {W : World} {g off n cap : Nat} {L : List Ev} (h : LiesE W (.slice (some ⟨g, off, none⟩) n cap) L) : L.length = n ∧ ∀ j u, (evs L)[j]? = some u → W.cell? ((⟨g, off, none⟩ : Addr).add j) = some u := by
  obtain ⟨o, c, e, h1, h2, h3⟩ := h.form
  injection e with e1 e2 e3
  subst e1; subst e3
  refine ⟨e2.symm, fun j u hj => ?_⟩
  have hl : j < L.length * 3 := by rw [← evs_length]; exact (List.getElem?_eq_some_iff.1 hj).1
  obtain ⟨g', off', e', a, b, c⟩ := h3 (j / 3) (by omega)
  injection e' with e'; injection e' with e1 e2'
  subst e1; subst e2'
  rw [z_add]
  obtain ⟨h0, h1, h2⟩ := evs_at L (j / 3) (by omega)
  have : j % 3 = 0 ∨ j % 3 = 1 ∨ j % 3 = 2 := by omega
  rcases this with e | e | e
  · rw [show j = j / 3 * 3 by omega] at hj ⊢
    rw [h0] at hj
    rw [← hj]; exact a
  · rw [show j = j / 3 * 3 + 1 by omega] at hj ⊢
    rw [h1] at hj
    rw [← hj]; exact b
  · rw [show j = j / 3 * 3 + 2 by omega] at hj ⊢
    rw [h2] at hj
    rw [← hj]; exact c

/-- A queue: its block, its ring's block, what the ring holds, where the first one is, how many there are. -/
structure IsQ (W : World) (qp rb : Nat) (R : List Ev) (f c : Nat) : Prop where
  slice : ∃ cap, R.length ≤ cap ∧ cap ≤ 9223372036854775807 ∧ W.cell? ⟨qp, 0, none⟩ = some (.slice (some ⟨rb, 0, none⟩) R.length cap)
  c1 : W.cell? ⟨qp, 1, none⟩ = some (.int .i64 (f : Int))
  c2 : W.cell? ⟨qp, 2, none⟩ = some (.int .i64 (c : Int))
  fz : ∀ o, W.frozen? ⟨qp, o, none⟩ = false
  ne : rb ≠ qp
  k : ∀ i, i < R.length → W.cell? ⟨rb, i * 3, none⟩ = some (.int .i64 (evAt R i).k)
  a : ∀ i, i < R.length → W.cell? ⟨rb, i * 3 + 1, none⟩ = some (.int .i64 (evAt R i).a)
  b : ∀ i, i < R.length → W.cell? ⟨rb, i * 3 + 2, none⟩ = some (.int .i64 (evAt R i).b)
  free : ∀ o, W.frozen? ⟨rb, o, none⟩ = false
  room : R.length ≤ 1024
  first : f < R.length
  count : c ≤ R.length
theorem IsQ.qlt {W : World} {qp rb : Nat} {R : List Ev} {f c : Nat} (h : IsQ W qp rb R f c) : qp < W.heap.size := World.block_lt_of_cell? _ _ h.c1
theorem IsQ.rlt {W : World} {qp rb : Nat} {R : List Ev} {f c : Nat} (h : IsQ W qp rb R f c) : rb < W.heap.size := World.block_lt_of_cell? _ _ (h.k f h.first)
theorem IsQ.keep {w W : World} {qp rb : Nat} {R : List Ev} {f c : Nat} (h : IsQ w qp rb R f c) (h1 : W.heap[qp]? = w.heap[qp]?) (h2 : W.heap[rb]? = w.heap[rb]?) : IsQ W qp rb R f c where
  slice := h.slice.elim fun cap h => ⟨cap, h.1, h.2.1, (World.cell?_of_block (a := ⟨qp, 0, none⟩) h1).trans h.2.2⟩
  c1 := (World.cell?_of_block (a := ⟨qp, 1, none⟩) h1).trans h.c1
  c2 := (World.cell?_of_block (a := ⟨qp, 2, none⟩) h1).trans h.c2
  fz := fun o => (World.frozen?_of_block (a := ⟨qp, o, none⟩) h1).trans (h.fz o)
  ne := h.ne
  k := fun i hi => (World.cell?_of_block (a := ⟨rb, i * 3, none⟩) h2).trans (h.k i hi)
  a := fun i hi => (World.cell?_of_block (a := ⟨rb, i * 3 + 1, none⟩) h2).trans (h.a i hi)
  b := fun i hi => (World.cell?_of_block (a := ⟨rb, i * 3 + 2, none⟩) h2).trans (h.b i hi)
  free := fun o => (World.frozen?_of_block (a := ⟨rb, o, none⟩) h2).trans (h.free o)
  room := h.room
  first := h.first
  count := h.count
theorem IsQ.below {w W : World} {qp rb : Nat} {R : List Ev} {f c : Nat} (h : IsQ w qp rb R f c) (hb : Below w.heap.size w W) : IsQ W qp rb R f c := h.keep (hb.block qp h.qlt) (hb.block rb h.rlt)
theorem IsQ.two {w W : World} {qp rb p q : Nat} {R : List Ev} {f c : Nat} (h : IsQ w qp rb R f c) (hb : Two2 w W p q) (h1 : qp ≠ p) (h2 : qp ≠ q) (h3 : rb ≠ p) (h4 : rb ≠ q) : IsQ W qp rb R f c := h.keep (hb.block qp h.qlt h1 h2) (hb.block rb h.rlt h3 h4)
theorem IsQ.far {w : World} {qp rb : Nat} {R : List Ev} {f c : Nat} (h : IsQ w qp rb R f c) {a : Addr} (u : Value) (h1 : qp ≠ a.block) (h2 : rb ≠ a.block) : IsQ (w.setCell a u) qp rb R f c := h.keep (Below.heap_setCell _ _ _ _ h1) (Below.heap_setCell _ _ _ _ h2)
/-- One place is written. -/
theorem IsQ.set3 {W : World} {qp rb : Nat} {R : List Ev} {f c : Nat} (h : IsQ W qp rb R f c) {j : Nat} (hj : j < R.length) (e : Ev) :
    IsQ (((W.setCell ⟨rb, j * 3, none⟩ (.int .i64 e.k)).setCell ⟨rb, j * 3 + 1, none⟩ (.int .i64 e.a)).setCell ⟨rb, j * 3 + 2, none⟩ (.int .i64 e.b)) qp rb (R.set j e) f c := by
  have oth : ∀ q : Addr, q ≠ ⟨rb, j * 3, none⟩ → q ≠ ⟨rb, j * 3 + 1, none⟩ → q ≠ ⟨rb, j * 3 + 2, none⟩ → (((W.setCell ⟨rb, j * 3, none⟩ (.int .i64 e.k)).setCell ⟨rb, j * 3 + 1, none⟩ (.int .i64 e.a)).setCell ⟨rb, j * 3 + 2, none⟩ (.int .i64 e.b)).cell? q = W.cell? q := fun q h1 h2 h3 => by
    rw [World.cell?_setCell_other _ _ _ _ (Ne.symm h3), World.cell?_setCell_other _ _ _ _ (Ne.symm h2), World.cell?_setCell_other _ _ _ _ (Ne.symm h1)]
  have s0 : ((W.setCell ⟨rb, j * 3, none⟩ (.int .i64 e.k)).cell? ⟨rb, j * 3 + 1, none⟩) = some (.int .i64 (evAt R j).a) := by rw [World.cell?_setCell_other _ _ _ _ (by simp)]; exact h.a j hj
  have s1 : (((W.setCell ⟨rb, j * 3, none⟩ (.int .i64 e.k)).setCell ⟨rb, j * 3 + 1, none⟩ (.int .i64 e.a)).cell? ⟨rb, j * 3 + 2, none⟩) = some (.int .i64 (evAt R j).b) := by rw [World.cell?_setCell_other _ _ _ _ (by simp), World.cell?_setCell_other _ _ _ _ (by simp)]; exact h.b j hj
  have hne := h.ne
  have fr : ∀ q, (((W.setCell ⟨rb, j * 3, none⟩ (.int .i64 e.k)).setCell ⟨rb, j * 3 + 1, none⟩ (.int .i64 e.a)).setCell ⟨rb, j * 3 + 2, none⟩ (.int .i64 e.b)).frozen? q = W.frozen? q := fun q => by simp
  refine ⟨?_, ?_, ?_, ?_, h.ne, ?_, ?_, ?_, ?_, by simpa using h.room, by simpa using h.first, by simpa using h.count⟩
  · obtain ⟨cap, h1, h2, h3⟩ := h.slice
    exact ⟨cap, by simpa using h1, h2, by rw [oth ⟨qp, 0, none⟩ (by simp) (by simp) (by simp)]; simpa using h3⟩
  · rw [oth ⟨qp, 1, none⟩ (by simp) (by simp) (by simp)]; exact h.c1
  · rw [oth ⟨qp, 2, none⟩ (by simp) (by simp) (by simp)]; exact h.c2
  · intro o; rw [fr]; exact h.fz o
  · intro i hi
    rw [List.length_set] at hi
    rw [evAt_set _ _ _ _ hj]
    by_cases hij : i = j
    · subst hij
      rw [if_pos rfl, World.cell?_setCell_other _ _ _ _ (by simp), World.cell?_setCell_other _ _ _ _ (by simp)]
      exact World.cell?_setCell_same _ _ _ (h.k i hi)
    · rw [if_neg hij, oth ⟨rb, i * 3, none⟩ (by simp) (by simp) (by simp)]; exact h.k i hi
  · intro i hi
    rw [List.length_set] at hi
    rw [evAt_set _ _ _ _ hj]
    by_cases hij : i = j
    · subst hij
      rw [if_pos rfl, World.cell?_setCell_other _ _ _ _ (by simp)]
      exact World.cell?_setCell_same _ _ _ s0
    · rw [if_neg hij, oth ⟨rb, i * 3 + 1, none⟩ (by simp) (by simp) (by simp)]; exact h.a i hi
  · intro i hi
    rw [List.length_set] at hi
    rw [evAt_set _ _ _ _ hj]
    by_cases hij : i = j
    · subst hij
      rw [if_pos rfl]
      exact World.cell?_setCell_same _ _ _ s1
    · rw [if_neg hij, oth ⟨rb, i * 3 + 2, none⟩ (by simp) (by simp) (by simp)]; exact h.b i hi
  · intro o; rw [fr]; exact h.free o
theorem IsQ.first' {W : World} {qp rb : Nat} {R : List Ev} {f c : Nat} (h : IsQ W qp rb R f c) (f' : Nat) (hf : f' < R.length) : IsQ (W.setCell ⟨qp, 1, none⟩ (.int .i64 (f' : Int))) qp rb R f' c := by
  have hne := h.ne
  refine ⟨?_, World.cell?_setCell_same _ _ _ h.c1, ?_, fun o => by simpa using h.fz o, hne, fun i hi => ?_, fun i hi => ?_, fun i hi => ?_, fun o => by simpa using h.free o, h.room, hf, h.count⟩
  · obtain ⟨cap, h1, h2, h3⟩ := h.slice
    exact ⟨cap, h1, h2, by rw [World.cell?_setCell_other _ _ _ _ (by simp)]; exact h3⟩
  · rw [World.cell?_setCell_other _ _ _ _ (by simp)]; exact h.c2
  · rw [World.cell?_setCell_other _ _ _ _ (by simp)]; exact h.k i hi
  · rw [World.cell?_setCell_other _ _ _ _ (by simp)]; exact h.a i hi
  · rw [World.cell?_setCell_other _ _ _ _ (by simp)]; exact h.b i hi
theorem IsQ.count' {W : World} {qp rb : Nat} {R : List Ev} {f c : Nat} (h : IsQ W qp rb R f c) (c' : Nat) (hc : c' ≤ R.length) : IsQ (W.setCell ⟨qp, 2, none⟩ (.int .i64 (c' : Int))) qp rb R f c' := by
  have hne := h.ne
  refine ⟨?_, ?_, World.cell?_setCell_same _ _ _ h.c2, fun o => by simpa using h.fz o, hne, fun i hi => ?_, fun i hi => ?_, fun i hi => ?_, fun o => by simpa using h.free o, h.room, h.first, hc⟩
  · obtain ⟨cap, h1, h2, h3⟩ := h.slice
    exact ⟨cap, h1, h2, by rw [World.cell?_setCell_other _ _ _ _ (by simp)]; exact h3⟩
  · rw [World.cell?_setCell_other _ _ _ _ (by simp)]; exact h.c1
  · rw [World.cell?_setCell_other _ _ _ _ (by simp)]; exact h.k i hi
  · rw [World.cell?_setCell_other _ _ _ _ (by simp)]; exact h.a i hi
  · rw [World.cell?_setCell_other _ _ _ _ (by simp)]; exact h.b i hi
/-- What a queue holds. -/
def Qu (W : World) (qp rb room : Nat) (C : List Ev) : Prop := ∃ R f, IsQ W qp rb R f C.length ∧ R.length = room ∧ ring R f C.length = C
end Go.Proofs.Ytbbmjfaflcbimaa
