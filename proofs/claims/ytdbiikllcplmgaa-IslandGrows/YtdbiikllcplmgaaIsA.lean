/- Lists of numbers, of bools and of links: those that are read, and rows of the call's own. -/
import Derived.RangeFuncBox
import Derived.Shelf.Abstract
import Derived.WalkKit
import Derived.OwnWalkIn
import Derived.TacticsInMore
import Derived.LoopNIn
import Derived.LoopIn
import Derived.LoopTactic
import Derived.ProofKit
import Derived.Handy
import Derived.Laws.MakeOwn
import Derived.Laws.OwnMore
import Derived.Maps.AppendAt
import Derived.Deep.RegionWith
import Derived.Deep.QuietTactic
import Derived.BigQuiet
import Derived.Deep.CutBlock
import Derived.Deep.CutRange
import Derived.Deep.LoopGhost
import Derived.Lib.SmallJoins
import Derived.Test.YtdbiikllcplmgaaIsM
import Derived.Test.YtdbiikllcplmgaaProg
namespace Go.Proofs.Ytdbiikllcplmgaa
open Go.RowKit Go.Shelf
set_option linter.unusedVariables false

theorem int_info : (Try.prog.info? 3).map (fun i => (i.zero, i.size, i.bytes)) = some (some (.int .i64 0), 1, 8) := by kernel_rfl
theorem bool_info : (Try.prog.info? 4).map (fun i => (i.zero, i.size, i.bytes)) = some (some (.bool false), 1, 1) := by kernel_rfl
theorem b_step {w w1 w2 : World} (h1 : Below w.heap.size w w1) (h2 : Below w1.heap.size w1 w2) : Below w.heap.size w w2 := h1.trans (h2.mono h1.size)
theorem c_after {w w1 : World} {p : Addr} {v : Value} (hb : Below w.heap.size w w1) (hc : w.cell? p = some v) : w1.cell? p = some v := (hb.cell (World.block_lt_of_cell? _ _ hc)).trans hc
theorem f_after {w w1 : World} {p : Addr} {v : Value} (hb : Below w.heap.size w w1) (hc : w.cell? p = some v) (hf : w.frozen? p = false) : w1.frozen? p = false := (hb.frozen (World.block_lt_of_cell? _ _ hc)).trans hf
theorem n_after (w : World) (o : Obj) : Below w.heap.size w (w.alloc o) := (Below.refl _ _).alloc (Nat.le_refl _) _
theorem below_grown {w W : World} (h : Below w.heap.size w W) (row : Option Nat) : w.grownBy W row := ⟨h.os, h.tape, h.output, h.size, fun k hk _ => h.block k hk⟩
theorem own_below {A W : World} {base : Nat} {t : TypeId} {sz n : Nat} {u : Value} {xs : List Value} (h : A.ownsRow base t sz u n xs) (hb : Below A.heap.size A W) : W.ownsRow base t sz u n xs := by
  cases e : u.ownBlock with
  | none => exact h.kept (below_grown hb none) (Or.inl e)
  | some k => exact h.kept (below_grown hb none) (Or.inr (by rw [e]; simp))
theorem ad_add (g off j : Nat) : (⟨g, off, none⟩ : Addr).add j = ⟨g, off + j, none⟩ := by unfold Addr.add; split <;> simp_all

/-- A list that can be read: n things, their cells cs. -/
structure Rd (W : World) (v : Value) (n : Nat) (cs : List Value) : Prop where
  form : ∃ o cap, v = .slice o n cap ∧ n ≤ cap ∧ cap ≤ 9223372036854775807 ∧ ∀ j u, cs[j]? = some u → ∃ g off, o = some ⟨g, off, none⟩ ∧ W.cell? ⟨g, off + j, none⟩ = some u
theorem Rd.below {w W : World} {v : Value} {n : Nat} {cs : List Value} (h : Rd w v n cs) (hb : Below w.heap.size w W) : Rd W v n cs := by
  obtain ⟨o, c, e, h1, h2, h3⟩ := h.form
  exact ⟨o, c, e, h1, h2, fun j u hj => by obtain ⟨g, off, e, hc⟩ := h3 j u hj; exact ⟨g, off, e, c_after hb hc⟩⟩
theorem Rd.of_row {W : World} {base : Nat} {t : TypeId} {sz n : Nat} {v : Value} {cs : List Value} (h : W.ownsRow base t sz v n cs) : Rd W v n cs := by
  refine ⟨?_⟩
  rcases h.2 with ⟨rfl, h0⟩ | ⟨g, cap, cur, rfl, hb, hg, h1, h2, h3, h4⟩
  · refine ⟨none, 0, by rw [h0], by omega, by omega, fun j u hj => ?_⟩
    have := (List.getElem?_eq_some_iff.1 hj).1
    rw [h.1, h0, Nat.zero_mul] at this
    omega
  · refine ⟨_, cap, rfl, h1, by unfold maxLen at h2; omega, fun j u hj => ⟨g, 0, rfl, ?_⟩⟩
    have hl := (List.getElem?_eq_some_iff.1 hj).1
    rw [h.1] at hl
    rw [Nat.zero_add]; exact (h.cellAt j hl).trans hj
def ints (L : List Int) : List Value := L.map (Value.int .i64)
def bools (L : List Bool) : List Value := L.map Value.bool
def flat : List (Int × Int) → List Value
  | [] => []
  | l :: r => .int .i64 l.1 :: .int .i64 l.2 :: flat r
theorem flat_length : ∀ L : List (Int × Int), (flat L).length = L.length * 2
  | [] => rfl
  | p :: r => by simp only [flat, List.length_cons, flat_length r]; omega
theorem flat_append : ∀ A B : List (Int × Int), flat (A ++ B) = flat A ++ flat B
  | [], B => rfl
  | p :: r, B => by simp [flat, flat_append r B]
theorem flat_at : ∀ (L : List (Int × Int)) (i : Nat) (l : Int × Int), L[i]? = some l → (flat L)[i * 2]? = some (.int .i64 l.1) ∧ (flat L)[i * 2 + 1]? = some (.int .i64 l.2)
  | [], i, l, h => by simp at h
  | p :: r, 0, l, h => by simp at h; subst h; exact ⟨rfl, rfl⟩
  | p :: r, i + 1, l, h => by
    have := flat_at r i l (by simpa using h)
    rw [show (i + 1) * 2 = i * 2 + 2 by omega]
    simpa [flat] using this
theorem flat_one (L : List (Int × Int)) : ∀ u ∈ flat L, u.oneCell' = true := by
  induction L with
  | nil => intro u hu; cases hu
  | cons p r ih =>
    intro u hu
    simp only [flat, List.mem_cons] at hu
    rcases hu with rfl | rfl | hu
    · rfl
    · rfl
    · exact ih u hu
theorem ints_one (L : List Int) : ∀ u ∈ ints L, u.oneCell' = true := by
  intro u hu
  obtain ⟨x, _, rfl⟩ := List.mem_map.1 hu
  rfl
theorem ints_length (L : List Int) : (ints L).length = L.length := by simp [ints]
theorem bools_length (L : List Bool) : (bools L).length = L.length := by simp [bools]
/-- Numbers that can be read. -/
structure RdI (W : World) (v : Value) (L : List Int) : Prop where
  form : ∃ o cap, v = .slice o L.length cap ∧ L.length ≤ cap ∧ cap ≤ 9223372036854775807 ∧ ∀ k, k < L.length → ∃ g off z, o = some ⟨g, off, none⟩ ∧ L[k]? = some z ∧ W.cell? ⟨g, off + k, none⟩ = some (.int .i64 z)
theorem RdI.of {W : World} {v : Value} {L : List Int} (h : Rd W v L.length (ints L)) : RdI W v L := by
  obtain ⟨o, c, e, h1, h2, h3⟩ := h.form
  refine ⟨o, c, e, h1, h2, fun k hk => ?_⟩
  obtain ⟨g, off, e, hc⟩ := h3 k (.int .i64 L[k]) (by simp [ints, hk])
  exact ⟨g, off, L[k], e, by simp [hk], hc⟩
theorem RdI.rd {W : World} {v : Value} {L : List Int} (h : RdI W v L) : Rd W v L.length (ints L) := by
  obtain ⟨o, c, e, h1, h2, h3⟩ := h.form
  refine ⟨o, c, e, h1, h2, fun j u hj => ?_⟩
  have hl := (List.getElem?_eq_some_iff.1 hj).1
  rw [ints_length] at hl
  obtain ⟨g, off, z, e, hz, hc⟩ := h3 j hl
  refine ⟨g, off, e, ?_⟩
  rw [show (ints L)[j]? = some (.int .i64 z) by simp [ints, hz]] at hj
  cases hj
  exact hc
theorem RdI.of_row {W : World} {base : Nat} {v : Value} {L : List Int} (h : W.ownsRow base 3 1 v L.length (ints L)) : RdI W v L := RdI.of (Rd.of_row h)
theorem RdI.below {w W : World} {v : Value} {L : List Int} (h : RdI w v L) (hb : Below w.heap.size w W) : RdI W v L := RdI.of (h.rd.below hb)
/-- Bools that can be read. -/
structure RdB (W : World) (v : Value) (L : List Bool) : Prop where
  form : ∃ o cap, v = .slice o L.length cap ∧ L.length ≤ cap ∧ cap ≤ 9223372036854775807 ∧ ∀ k, k < L.length → ∃ g off z, o = some ⟨g, off, none⟩ ∧ L[k]? = some z ∧ W.cell? ⟨g, off + k, none⟩ = some (.bool z)
theorem RdB.of {W : World} {v : Value} {L : List Bool} (h : Rd W v L.length (bools L)) : RdB W v L := by
  obtain ⟨o, c, e, h1, h2, h3⟩ := h.form
  refine ⟨o, c, e, h1, h2, fun k hk => ?_⟩
  obtain ⟨g, off, e, hc⟩ := h3 k (.bool L[k]) (by simp [bools, hk])
  exact ⟨g, off, L[k], e, by simp [hk], hc⟩
theorem RdB.rd {W : World} {v : Value} {L : List Bool} (h : RdB W v L) : Rd W v L.length (bools L) := by
  obtain ⟨o, c, e, h1, h2, h3⟩ := h.form
  refine ⟨o, c, e, h1, h2, fun j u hj => ?_⟩
  have hl := (List.getElem?_eq_some_iff.1 hj).1
  rw [bools_length] at hl
  obtain ⟨g, off, z, e, hz, hc⟩ := h3 j hl
  refine ⟨g, off, e, ?_⟩
  rw [show (bools L)[j]? = some (.bool z) by simp [bools, hz]] at hj
  cases hj
  exact hc
theorem RdB.of_row {W : World} {base : Nat} {v : Value} {L : List Bool} (h : W.ownsRow base 4 1 v L.length (bools L)) : RdB W v L := RdB.of (Rd.of_row h)
theorem RdB.below {w W : World} {v : Value} {L : List Bool} (h : RdB w v L) (hb : Below w.heap.size w W) : RdB W v L := RdB.of (h.rd.below hb)
theorem RdB.nil (W : World) : RdB W (.slice none 0 0) [] := ⟨none, 0, rfl, by simp, by omega, fun k hk => by simp at hk⟩
/-- Links that can be read. -/
structure RdL (W : World) (v : Value) (L : List (Int × Int)) : Prop where
  form : ∃ o cap, v = .slice o L.length cap ∧ L.length ≤ cap ∧ cap ≤ 9223372036854775807 ∧ ∀ k, k < L.length → ∃ g off x y, o = some ⟨g, off, none⟩ ∧ L[k]? = some (x, y) ∧ W.cell? ⟨g, off + k * 2, none⟩ = some (.int .i64 x) ∧ W.cell? ⟨g, off + k * 2 + 1, none⟩ = some (.int .i64 y)
theorem RdL.of {W : World} {v : Value} {L : List (Int × Int)} (h : Rd W v L.length (flat L)) : RdL W v L := by
  obtain ⟨o, c, e, h1, h2, h3⟩ := h.form
  refine ⟨o, c, e, h1, h2, fun k hk => ?_⟩
  have hz : L[k]? = some L[k] := by simp [hk]
  obtain ⟨f0, f1⟩ := flat_at L k _ hz
  obtain ⟨g, off, e, hc⟩ := h3 _ _ f0
  obtain ⟨g', off', e', hc'⟩ := h3 _ _ f1
  rw [e] at e'
  cases e'
  exact ⟨g, off, L[k].1, L[k].2, e, hz, hc, by rw [← Nat.add_assoc] at hc'; exact hc'⟩
theorem RdL.of_row {W : World} {base : Nat} {v : Value} {L : List (Int × Int)} (h : W.ownsRow base 32 2 v L.length (flat L)) : RdL W v L := RdL.of (Rd.of_row h)
theorem RdL.below {w W : World} {v : Value} {L : List (Int × Int)} (h : RdL w v L) (hb : Below w.heap.size w W) : RdL W v L := by
  obtain ⟨o, c, e, h1, h2, h3⟩ := h.form
  refine ⟨o, c, e, h1, h2, fun k hk => ?_⟩
  obtain ⟨g, off, x, y, e, hz, c0, c1⟩ := h3 k hk
  exact ⟨g, off, x, y, e, hz, c_after hb c0, c_after hb c1⟩
/-- A row of numbers that may be written. -/
structure IRow (W : World) (g N : Nat) (T : Nat → Nat) : Prop where
  cell : ∀ i, i < N → W.cell? ⟨g, i, none⟩ = some (.int .i64 (T i : Int))
  fro : ∀ i, i < N → W.frozen? ⟨g, i, none⟩ = false
theorem IRow.set {W : World} {g N : Nat} {T : Nat → Nat} (h : IRow W g N T) {k : Nat} (hk : k < N) (x : Nat) : IRow (W.setCell ⟨g, k, none⟩ (.int .i64 (x : Int))) g N (upd T k x) := by
  have hc := h.cell k hk
  refine ⟨fun i hi => ?_, fun i hi => ?_⟩
  · by_cases e : i = k
    · subst e; rw [upd_same]; simp [go_sem, hc]
    · rw [upd_other _ _ _ _ e]
      have := h.cell i hi
      simp [go_sem, this]
  · have := h.fro i hi
    simp [go_sem, this]
theorem IRow.of_row {W : World} {base g N c : Nat} {T : Nat → Nat} {cs : List Value} (h : W.ownsRow base 3 1 (.slice (some ⟨g, 0, none⟩) N c) N cs) (hT : ∀ i, i < N → cs[i]? = some (.int .i64 (T i : Int))) : IRow W g N T :=
  ⟨fun i hi => (h.cellAt i (by omega)).trans (hT i hi), fun i hi => h.frozenAt i⟩
theorem set_grown {W : World} {g k : Nat} (u : Value) : W.grownBy (W.setCell ⟨g, k, none⟩ u) (some g) := by
  have hb := (Below.refl g W).setCell (p := ⟨g, k, none⟩) (Nat.le_refl _) u
  have hc := (Below.refl W.heap.size W)
  refine ⟨hb.os, hb.tape, hb.output, by simp [World.setCell], fun j hj hne => ?_⟩
  have : j ≠ g := fun e => hne (by rw [e])
  exact RowKit.Below.heap_setCell _ _ _ _ this
theorem gtrans {a b c : World} {row : Option Nat} (h : a.grownBy b row) (k : b.grownBy c row) : a.grownBy c row := ⟨k.os.trans h.os, k.tape.trans h.tape, k.output.trans h.output, Nat.le_trans h.size k.size, fun i hi hn => (k.block i (Nat.lt_of_lt_of_le hi h.size) hn).trans (h.block i hi hn)⟩
theorem gbelow {w A B : World} {g n : Nat} (h : Below n w A) (k : A.grownBy B (some g)) (hn : n ≤ g) (hs : n ≤ A.heap.size) : Below n w B := h.grown k hs (fun j e => by cases e; exact hn)
theorem IRow.kept {W X : World} {g N : Nat} {T : Nat → Nat} {row : Option Nat} (h : IRow W g N T) (k : W.grownBy X row) (hne : some g ≠ row) : IRow X g N T :=
  ⟨fun i hi => k.cell (h.cell i hi) hne, fun i hi => (World.frozen?_of_block (k.block g (World.block_lt_of_cell? _ _ (h.cell i hi)) hne)).trans (h.fro i hi)⟩
theorem IRow.below {w W : World} {g N : Nat} {T : Nat → Nat} (h : IRow w g N T) (hb : Below w.heap.size w W) : IRow W g N T := h.kept (below_grown hb none) (by simp)
theorem IRow.rd {W : World} {g N c : Nat} {T : Nat → Nat} (h : IRow W g N T) (h1 : N ≤ c) (h2 : c ≤ 9223372036854775807) : RdI W (.slice (some ⟨g, 0, none⟩) N c) ((List.range N).map fun i => (T i : Int)) := by
  refine ⟨some ⟨g, 0, none⟩, c, by simp, by simpa using h1, h2, fun k hk => ?_⟩
  simp at hk
  exact ⟨g, 0, (T k : Int), rfl, by simp [hk], by rw [Nat.zero_add]; exact h.cell k hk⟩
end Go.Proofs.Ytdbiikllcplmgaa
