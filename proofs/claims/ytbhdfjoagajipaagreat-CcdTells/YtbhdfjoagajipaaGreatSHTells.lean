/- What Hold tells is the document's answer: for all places and cores. -/
import Derived.Test.YtbhdfjoagajipaaGreatBBW18
import Derived.Test.YtbhdfjoagajipaaGreatBBW15
import Derived.Test.YtbhdfjoagajipaaGreatBBW13
import Derived.Test.YtbhdfjoagajipaaGreatBBW12
import Derived.Test.YtbhdfjoagajipaaGreatBBW8
import Derived.Test.YtbhdfjoagajipaaGreatBBW5
import Derived.Test.YtbhdfjoagajipaaGreatBBW4
import Derived.Test.YtbhdfjoagajipaaGreatBBW0
import Derived.Test.YtbhdfjoagajipaaGreatProg
import Derived.WalkKit
import Derived.Orders
import Derived.Below
import Derived.Laws.Rows
import Derived.Test.YtbhdfjoagajipaaGreatBBW3
import Derived.Test.YtbhdfjoagajipaaGreatBBW2
import Derived.Test.YtbhdfjoagajipaaGreatBBW1
import Derived.RangeFuncNested
import Derived.RangeFuncBound
import Derived.RangeFuncCalls
import Derived.RangeFuncLeaves
import Derived.RangeFuncBox
import Derived.Shelf.Abstract
import Derived.OwnWalkIn
import Derived.TacticsInMore
import Derived.LoopNIn
import Derived.LoopIn
import Derived.LoopTactic
import Derived.ProofKit
import Derived.Handy
import Derived.Laws.MakeOwn
import Derived.Laws.OwnMore
import Derived.Maps.AppendAt
import Derived.Deep.RegionWith
import Derived.Deep.QuietTactic
import Derived.BigQuiet
import Derived.Deep.CutBlock
import Derived.Deep.CutRange
import Derived.Deep.LoopGhost
import Derived.Lib.SmallJoins
import Derived.RowKit
import Derived.Scope
import Derived.OrdersIn
import Derived.Sort.CutIn
import Derived.Test.YtbhdfjoagajipaaGreatBBW6
import Derived.OneCell
import Derived.WalkMore
import Derived.Lib.BufferMore
import Derived.Test.YtbhdfjoagajipaaGreatBBW7
import Derived.Laws.MathBits
import Derived.Laws.Externs
import Derived.Laws.BitsAllLaws
import Derived.WalkLawsBesides
import Derived.Lib.AppendZeros
import Derived.Deep.Onto
import Derived.Test.YtbhdfjoagajipaaGreatBBW9
import Derived.Test.YtbhdfjoagajipaaGreatBBW11
import Derived.Deep.MidRow
import Derived.Test.YtbhdfjoagajipaaGreatBBW10
import Derived.Deep.RegionHeld3
import Derived.Test.YtbhdfjoagajipaaGreatBBW14
import Derived.Test.YtbhdfjoagajipaaGreatBBW16
import Derived.Test.YtbhdfjoagajipaaGreatBBW17
import Derived.Test.YtbhdfjoagajipaaGreatEHTells0
import Derived.Test.YtbhdfjoagajipaaGreatRows
import Derived.OpenShut
namespace Go.Proofs.YtbhdfjoagajipaaGreat
namespace ccdTells
open Go.ChangeShapes Go.WideShapes Go.ChangeAt Go.RowKit Go.Shelf
set_option linter.unusedVariables false

theorem own : ownKnob Tryz.prog.godebug = none := by kernel_rfl
theorem laidOut : laidOutB Tryz.prog = true := by kernel_rfl

theorem walk (am0 am1 : V3) (a2 : Int) (L : List Cr) (lv : Value) (w0 : World) (h0 : ∀ n ∈ ([am0.x, am0.y, am0.z] : List Int), -9223372036854775808 ≤ n ∧ n ≤ 9223372036854775807) (h1 : ∀ n ∈ ([am1.x, am1.y, am1.z] : List Int), -9223372036854775808 ≤ n ∧ n ≤ 9223372036854775807) (h2 : -9223372036854775808 ≤ a2 ∧ a2 ≤ 9223372036854775807) (hl : LiesC w0 lv L) :
    Calls Tryz.prog 4 #[am0.val, am1.val, .int .i64 a2, lv] w0 fun e w' => e = .returned (.bool true) ∧ Below w0.heap.size w0 w' :=
  tells_any am0 am1 a2 L lv w0 hl ⟨h0 _ (by simp), h0 _ (by simp), h0 _ (by simp)⟩ ⟨h1 _ (by simp), h1 _ (by simp), h1 _ (by simp)⟩

/-! ### The row's step, after the guide's template -/
set_option maxRecDepth 100000 in
theorem lifted (os : Os) (started : os.Started) (H : Type) (enc : TypeId × Value → H) :
    ReturnsInHanded {} Tryz.checked os 4 .any (Rows.ccdTellsSpec.pre6 enc Tryz.prog Tryz.f4 Rows.ccdTellsRow.domain false) (Rows.ccdTellsSpec.post enc Tryz.prog Tryz.f4 false true false false) := by
  refine returnsInHanded_of_change (C := Tryz.checked) own started (by kernel_rfl) Tryz.func4
    (ChangeSpec.witness6 (enc := enc) (C := Tryz.checked) false ⟨#[], #[.agg #[.int .i64 0, .int .i64 0, .int .i64 0], .agg #[.int .i64 0, .int .i64 0, .int .i64 0], .int .i64 0, .slice none 0 0], []⟩ 8 (by kernel_rfl) (by kernel_rfl) (by kernel_rfl) (by kernel_rfl)) ?_
  intro W base args ds gs before hval0 hW hcnd _
  have hval : ∀ (j : Nat) t v, Tryz.f4.params[j]? = some t → args[j]? = some v → Value.okWide Tryz.prog W .any base t v := hval0
  have hW' := hW
  obtain ⟨p, q, hA0, hV, rfl, hfz, hnd⟩ := hW
  have hA : DataW.TrodAll enc Tryz.prog W 0 (fun _ => true) true Tryz.f4.params.toList args.toList ds p := hA0
  rw [Tryz.params4] at hA hval
  obtain ⟨v0, vs0, d0, ds0, p0, q0, hargs, rfl, rfl, h0, r0⟩ := trodAll_cons hA
  obtain ⟨v1, vs1, d1, ds1, p1, q1, rfl, rfl, rfl, h1, r1⟩ := trodAll_cons r0
  obtain ⟨v2, vs2, d2, ds2, p2, q2, rfl, rfl, rfl, h2, r2⟩ := trodAll_cons r1
  obtain ⟨v3, vs3, d3, ds3, p3, q3, rfl, rfl, rfl, h3, r3⟩ := trodAll_cons r2
  obtain ⟨rfl, rfl, rfl⟩ := trodAll_nil r3
  obtain rfl : args = #[v0, v1, v2, v3] := by cases args; simp_all
  obtain ⟨rfl, rfl⟩ := trodVars_none hV
  have k0 := h0
  have lt0 : ∀ x ∈ p0, x.block < W.heap.size := by obtain ⟨m, hm⟩ := k0; exact DataW.trod_lt m _ _ _ hm
  obtain ⟨am0, rfl, hbm0⟩ := open_vec18 (hval 0 27 v0 rfl rfl) h0
  have k1 := h1
  have lt1 : ∀ x ∈ p1, x.block < W.heap.size := by obtain ⟨m, hm⟩ := k1; exact DataW.trod_lt m _ _ _ hm
  obtain ⟨am1, rfl, hbm1⟩ := open_vec18 (hval 1 27 v1 rfl rfl) h1
  obtain ⟨a2, rfl, rfl, rfl, w2⟩ := open_int Tryz.underlying3 (hval 2 3 v2 rfl rfl) h2
  have b2 := bounds_i64 w2
  have k3 := h3
  have lt3 : ∀ x ∈ p3, x.block < W.heap.size := by obtain ⟨m, hm⟩ := k3; exact DataW.trod_lt m _ _ _ hm
  obtain ⟨Lc3, hLc3⟩ := open_cores (hval 3 42 v3 rfl rfl) h3
  clear hA0 hval0
  refine (walk am0 am1 a2 Lc3 v3 W hbm0 hbm1 (by omega) hLc3).mono fun e W' ⟨he, bel⟩ => ?_
  subst he
  exact ⟨_, rfl, _, _, _, [], _, [], hW', trodAll_mk1 (shut_bool Tryz.underlying4 _), (trodAll_cons_mk (Below.trod laidOut (by kernel_rfl) (of_decide_eq_true (by kernel_rfl)) k0 bel lt0) (trodAll_cons_mk (Below.trod laidOut (by kernel_rfl) (of_decide_eq_true (by kernel_rfl)) k1 bel lt1) (trodAll_cons_mk (shut_int Tryz.underlying3 w2) (trodAll_cons_mk (Below.trod laidOut (by kernel_rfl) (of_decide_eq_true (by kernel_rfl)) k3 bel lt3) trodAll_mk0)))), rfl, bel.frame _, fun h => by cases h⟩

theorem over : Rows.ccdTellsRow.holds Tryz.pinned (OpenSpec.ofChange Rows.ccdTellsSpec) :=
  OpenClaim.holds_of_wide 4 Tryz.f4 rfl rfl rfl rfl rfl rfl rfl ⟨rfl, rfl, rfl, rfl, rfl⟩ rfl rfl rfl rfl rfl (by kernel_rfl) Tryz.func4 (by kernel_rfl)
    (of_decide_eq_true (by kernel_rfl)) (by unfold Func.isWrapper; first | (rw [if_pos (by decide +kernel)]; kernel_rfl) | (rw [if_neg (by decide +kernel)]; exact ⟨rfl, rfl⟩))
    (fun os started H enc _ => lifted os started H enc)

end ccdTells

theorem ccdTells_holds : Rows.CcdTellsSaid := ccdTells.over
#print axioms ccdTells_holds
end Go.Proofs.YtbhdfjoagajipaaGreat
