/- A wall that is made in a drawn region: its point is laid, its box is made and filled, in whatever order. -/
import Derived.Test.YtablgiflakncfaaGreatBBW23
import Derived.Test.YtablgiflakncfaaGreatBBW5
import Derived.Test.YtablgiflakncfaaGreatEHAlone0
import Derived.Test.YtablgiflakncfaaGreatBBW4
import Derived.Test.YtablgiflakncfaaGreatBBW0
import Derived.Test.YtablgiflakncfaaGreatProg
import Derived.WalkKit
import Derived.Orders
import Derived.Below
import Derived.Laws.Rows
import Derived.Test.YtablgiflakncfaaGreatBBW3
import Derived.Test.YtablgiflakncfaaGreatBBW2
import Derived.Test.YtablgiflakncfaaGreatBBW1
import Derived.RangeFuncNested
import Derived.RangeFuncBound
import Derived.RangeFuncCalls
import Derived.RangeFuncLeaves
import Derived.RangeFuncBox
import Derived.Shelf.Abstract
import Derived.OwnWalkIn
import Derived.TacticsInMore
import Derived.LoopNIn
import Derived.LoopIn
import Derived.LoopTactic
import Derived.ProofKit
import Derived.Handy
import Derived.Laws.MakeOwn
import Derived.Laws.OwnMore
import Derived.Maps.AppendAt
import Derived.Deep.RegionWith
import Derived.Deep.QuietTactic
import Derived.BigQuiet
import Derived.Deep.CutBlock
import Derived.Deep.CutRange
import Derived.Deep.LoopGhost
import Derived.Lib.SmallJoins
import Derived.RowKit
import Derived.Scope
import Derived.OrdersIn
import Derived.Sort.CutIn
import Derived.Test.YtablgiflakncfaaGreatBBW13
import Derived.Test.YtablgiflakncfaaGreatBBW12
import Derived.OneCell
import Derived.WalkMore
import Derived.Lib.BufferMore
import Derived.Test.YtablgiflakncfaaGreatBBW6
import Derived.Test.YtablgiflakncfaaGreatBBW11
import Derived.Test.YtablgiflakncfaaGreatBBW8
import Derived.Test.YtablgiflakncfaaGreatBBW7
import Derived.Laws.MathBits
import Derived.Laws.Externs
import Derived.Laws.BitsAllLaws
import Derived.WalkLawsBesides
import Derived.Deep.MidRow
import Derived.Deep.Onto
namespace Go.Proofs.YtablgiflakncfaaGreat
open Go.RowKit Go.Shelf
set_option linter.unusedVariables false

structure WB (W0 : World) (ov : Array Value) (rv : Value) (iS iC iA iT : Nat) (γ : Nat → Value) (L : Nat → Bool) (w : World) : Prop where
  below : Below W0.heap.size W0 w
  sl : L iS = true → ∃ g, γ iS = .slice (some ⟨g, 0, none⟩) 1 1 ∧ w.heap[g]? = some (.cells ov 45 (0, 0))
  co : L iC = true → ∃ g, γ iC = .agg #[.slice (some ⟨g, 0, none⟩) 1 1, .slice none 0 0, .slice none 0 0, rv] ∧ w.heap[g]? = some (.cells ov 45 (0, 0))
  bx : L iA = true → ∃ b cs, γ iA = .pointer (some ⟨b, 0, none⟩) ∧ W0.heap.size ≤ b ∧ w.heap[b]? = some (.cells cs 28 (0, 0)) ∧ cs.size = 4 ∧ (L iT = true → γ iC = .agg cs)
section
variable {W0 w : World} {ov : Array Value} {rv : Value} {iS iC iA iT : Nat} {γ : Nat → Value} {L : Nat → Bool}
theorem wb_up {w : World} {g : Nat} {o ob : Obj} (h : w.heap[g]? = some o) : (w.alloc ob).heap[g]? = some o := ((n_after w ob).block g (Array.getElem?_eq_some_iff.1 h).1).trans h
theorem WB.start : WB W0 ov rv iS iC iA iT (fun _ => undef) (fun _ => false) W0.drew := ⟨(Below.refl _ _).drew, fun h => (by cases h), fun h => (by cases h), fun h => (by cases h)⟩
theorem WB.other (h : WB W0 ov rv iS iC iA iT γ L w) {k : Nat} (v : Value) (h1 : iS ≠ k) (h2 : iC ≠ k) (h3 : iA ≠ k) (h4 : iT ≠ k) : WB W0 ov rv iS iC iA iT (RV.upd γ k v) (more L k) w := by
  refine ⟨h.below, fun l => ?_, fun l => ?_, fun l => ?_⟩
  · rw [RV.more_ne h1] at l; rw [RV.upd_ne γ v h1]; exact h.sl l
  · rw [RV.more_ne h2] at l; rw [RV.upd_ne γ v h2]; exact h.co l
  · rw [RV.more_ne h3] at l; rw [RV.upd_ne γ v h3, RV.upd_ne γ v h2, RV.more_ne h4]; exact h.bx l
theorem WB.come (h : WB W0 ov rv iS iC iA iT γ L w) {k : Nat} (v : Value) {w' : World} (hb : Below w.heap.size w w') (h1 : iS ≠ k) (h2 : iC ≠ k) (h3 : iA ≠ k) (h4 : iT ≠ k) : WB W0 ov rv iS iC iA iT (RV.upd γ k v) (more L k) w' := by
  have up : ∀ {g : Nat} {o : Obj}, w.heap[g]? = some o → w'.heap[g]? = some o := fun {g o} e => (hb.block g (Array.getElem?_eq_some_iff.1 e).1).trans e
  refine WB.other ⟨b_step h.below hb, fun l => ?_, fun l => ?_, fun l => ?_⟩ v h1 h2 h3 h4
  · obtain ⟨g, e1, e2⟩ := h.sl l; exact ⟨g, e1, up e2⟩
  · obtain ⟨g, e1, e2⟩ := h.co l; exact ⟨g, e1, up e2⟩
  · obtain ⟨b, cs, e1, e2, e3, e4, e5⟩ := h.bx l; exact ⟨b, cs, e1, e2, up e3, e4, e5⟩
theorem WB.lay (h : WB W0 ov rv iS iC iA iT γ L w) (h1 : iC ≠ iS) (h2 : iA ≠ iS) (h3 : iT ≠ iS) : WB W0 ov rv iS iC iA iT (RV.upd γ iS (.slice (some ⟨w.heap.size, 0, none⟩) 1 1)) (more L iS) (w.alloc (.cells ov 45)) := by
  refine ⟨b_step h.below (n_after _ _), fun _ => ⟨_, RV.upd_self _ _ _, heap_alloc_new w _⟩, fun l => ?_, fun l => ?_⟩
  · rw [RV.more_ne h1] at l; rw [RV.upd_ne γ _ h1]
    obtain ⟨g, e1, e2⟩ := h.co l; exact ⟨g, e1, wb_up e2⟩
  · rw [RV.more_ne h2] at l; rw [RV.upd_ne γ _ h2, RV.upd_ne γ _ h1, RV.more_ne h3]
    obtain ⟨b, cs, e1, e2, e3, e4, e5⟩ := h.bx l; exact ⟨b, cs, e1, e2, wb_up e3, e4, e5⟩
theorem WB.put (h : WB W0 ov rv iS iC iA iT γ L w) {g : Nat} (hg : w.heap[g]? = some (.cells ov 45 (0, 0))) (ht : L iT = false) (h1 : iS ≠ iC) (h2 : iA ≠ iC) (h3 : iT ≠ iC) : WB W0 ov rv iS iC iA iT (RV.upd γ iC (.agg #[.slice (some ⟨g, 0, none⟩) 1 1, .slice none 0 0, .slice none 0 0, rv])) (more L iC) w := by
  refine ⟨h.below, fun l => ?_, fun _ => ⟨g, RV.upd_self _ _ _, hg⟩, fun l => ?_⟩
  · rw [RV.more_ne h1] at l; rw [RV.upd_ne γ _ h1]; exact h.sl l
  · rw [RV.more_ne h2] at l; rw [RV.upd_ne γ _ h2, RV.more_ne h3]
    obtain ⟨b, cs, e1, e2, e3, e4, e5⟩ := h.bx l; exact ⟨b, cs, e1, e2, e3, e4, fun l' => by rw [ht] at l'; cases l'⟩
theorem WB.made (h : WB W0 ov rv iS iC iA iT γ L w) (ht : L iT = false) {z : Array Value} (hz : z.size = 4) (h1 : iS ≠ iA) (h2 : iC ≠ iA) (h3 : iT ≠ iA) : WB W0 ov rv iS iC iA iT (RV.upd γ iA (.pointer (some ⟨w.heap.size, 0, none⟩))) (more L iA) (w.alloc (.cells z 28)) := by
  refine ⟨b_step h.below (n_after _ _), fun l => ?_, fun l => ?_, fun _ => ⟨w.heap.size, z, RV.upd_self _ _ _, h.below.size, heap_alloc_new w _, hz, fun l => by rw [RV.more_ne h3, ht] at l; cases l⟩⟩
  · rw [RV.more_ne h1] at l; rw [RV.upd_ne γ _ h1]
    obtain ⟨g, e1, e2⟩ := h.sl l; exact ⟨g, e1, wb_up e2⟩
  · rw [RV.more_ne h2] at l; rw [RV.upd_ne γ _ h2]
    obtain ⟨g, e1, e2⟩ := h.co l; exact ⟨g, e1, wb_up e2⟩
theorem WB.spot (h : WB W0 ov rv iS iC iA iT γ L w) (l1 : L iC = true) (l2 : L iA = true) : ∃ g b, γ iC = .agg #[.slice (some ⟨g, 0, none⟩) 1 1, .slice none 0 0, .slice none 0 0, rv] ∧ γ iA = .pointer (some ⟨b, 0, none⟩) ∧ w.there b 0 4 ∧ (iS ≠ iT → iC ≠ iT → iA ≠ iT → ∀ v, WB W0 ov rv iS iC iA iT (RV.upd γ iT v) (more L iT) (w.setCells b 0 (#[.slice (some ⟨g, 0, none⟩) 1 1, .slice none 0 0, .slice none 0 0, rv] : Array Value).toList)) := by
  obtain ⟨g, e1, e2⟩ := h.co l1
  obtain ⟨b, cs, f1, f2, f3, f4, _⟩ := h.bx l2
  refine ⟨g, b, e1, f1, there_all f3 f4, fun h1 h2 h3 v => ?_⟩
  have hg := setcells_grown (#[.slice (some ⟨g, 0, none⟩) 1 1, .slice none 0 0, .slice none 0 0, rv] : Array Value).toList 0 b w
  have hn : ∀ {k : Nat}, w.heap[k]? = some (.cells ov 45 (0, 0)) → (w.setCells b 0 (#[.slice (some ⟨g, 0, none⟩) 1 1, .slice none 0 0, .slice none 0 0, rv] : Array Value).toList).heap[k]? = some (.cells ov 45 (0, 0)) := fun {k} e => by
    have hne : k ≠ b := fun e9 => by rw [e9, f3] at e; simp at e
    exact (hg.block k (Array.getElem?_eq_some_iff.1 e).1 (fun e' => hne (by simpa using e'))).trans e
  refine ⟨h.below.trans (sets_keeps f2 _ _ _), fun l => ?_, fun l => ?_, fun _ => ?_⟩
  · rw [RV.more_ne h1] at l; rw [RV.upd_ne γ v h1]
    obtain ⟨k, q1, q2⟩ := h.sl l; exact ⟨k, q1, hn q2⟩
  · rw [RV.more_ne h2] at l; rw [RV.upd_ne γ v h2]
    obtain ⟨k, q1, q2⟩ := h.co l; exact ⟨k, q1, hn q2⟩
  · rw [RV.upd_ne γ v h3, RV.upd_ne γ v h2]
    exact ⟨b, _, f1, f2, heap_all f3 f4, rfl, fun _ => e1⟩
theorem WB.done {px py pz : Int} (h : WB W0 #[.int .i64 px, .int .i64 py, .int .i64 pz] rv iS iC iA iT γ L w) (l1 : L iC = true) (l2 : L iA = true) (l3 : L iT = true) : ∃ g b, γ iA = .pointer (some ⟨b, 0, none⟩) ∧ γ iC = .agg #[.slice (some ⟨g, 0, none⟩) 1 1, .slice none 0 0, .slice none 0 0, rv] ∧ CW w b [.slice (some ⟨g, 0, none⟩) 1 1, .slice none 0 0, .slice none 0 0, rv] ∧ Lies w (.slice (some ⟨g, 0, none⟩) 1 1) [⟨px, py, pz⟩] ∧ Below W0.heap.size W0 w := by
  obtain ⟨g, e1, e2⟩ := h.co l1
  obtain ⟨b, cs, f1, f2, f3, f4, f5⟩ := h.bx l2
  have e7 := f5 l3
  rw [e1] at e7
  cases e7
  refine ⟨g, b, f1, e1, cw_all f3, lies_one9 fun i v e => ?_, h.below⟩
  exact (cw_all e2 i v e).1
end
theorem cw_flag {W : World} {b : Nat} {v : Value} (hc : W.cell? ⟨b, 0, none⟩ = some v) (hf : W.frozen? ⟨b, 0, none⟩ = false) : CW W b [v] := fun i x e => by
  match i, e with
  | 0, e => cases e; exact ⟨hc, hf⟩
/-- Boxes beside one that is written into. -/
theorem cw_put3 {W : World} {b b' : Nat} {vs : List Value} (h : CW W b vs) (hne : b ≠ b') (x y z : Value) : CW (((W.setCell ⟨b', 0, none⟩ x).setCell ⟨b', 1, none⟩ y).setCell ⟨b', 2, none⟩ z) b vs := Cells.put3 (show Cells W b vs from h) hne x y z
theorem cw_own3 {W : World} {b : Nat} {x0 y0 z0 : Value} (h : CW W b [x0, y0, z0]) (x y z : Value) : CW (((W.setCell ⟨b, 0, none⟩ x).setCell ⟨b, 1, none⟩ y).setCell ⟨b, 2, none⟩ z) b [x, y, z] :=
  (((show Cells W b [x0, y0, z0] from h).set 0 x (by simp)).set 1 y (by simp)).set 2 z (by simp)
end Go.Proofs.YtablgiflakncfaaGreat
