/- Ratios and roots are the document's, and so is the flag: true for all ints. -/
import Derived.Test.YtbjjpccaiciahaaAwake
import Derived.Test.YtbjjpccaiciahaaRef7
import Derived.Test.YtbjjpccaiciahaaRows
import Derived.ProofKit
import Derived.OpenShut
namespace Go.Proofs.Ytbjjpccaiciahaa
namespace fxRatios
open Go.ChangeShapes Go.WideShapes Go.ChangeAt Go.RowKit Fx
set_option linter.unusedVariables false

theorem own : ownKnob Try.prog.godebug = none := by kernel_rfl

set_option maxHeartbeats 8000000 in
theorem walk (a0 : Int) (a1 : Int) (a2 : Int) (w0 : (Lit.int .i64 a0).wf = true) (w1 : (Lit.int .i64 a1).wf = true) (w2 : (Lit.int .i64 a2).wf = true) (w : World) :
    Calls Try.prog 4 #[.int .i64 a0, .int .i64 a1, .int .i64 a2] w fun e w' => e = .returned (.bool true) ∧ Below w.heap.size w w' := by
  clear w0 w1 w2
  have AW : Hid _ := awake_any w
  go_enter Try.func4, Try.ntmps4
  go_wp2_with (fail)
  refine Calls.mono AW.out ?_
  rintro e V ⟨rfl, hb0⟩
  have HB : Hid _ := hb0
  have hsW : w.heap.size ≤ V.heap.size := hb0.size
  clear hb0 AW
  go_wp2_with (fail)
  refine (ratio_law V.heap.size 0 false a0 a1 a2 _ (by simp) (by simp)).mono ?_
  rintro e W1 ⟨x, g, rfl, S1, A1⟩
  have c1 := A1.out.cell
  have f1 := A1.out.frozen
  have c2 : W1.cell? ⟨V.heap.size + 1, 0, none⟩ = some (.bool false) := A1.out.cellOf (by simp) (by simp)
  have f2 : W1.frozen? ⟨V.heap.size + 1, 0, none⟩ = false := A1.out.frozenOf (v := .bool false) (by simp) (by simp) (by simp)
  have B1 : Hid _ := A1.out.on ((HB.out.alloc hsW _).alloc (by simp; omega) _) hsW
  clear A1
  go_wp2_with (fail)
  refine (rratio_law (V.heap.size + 1) 0 false a0 a1 a2 _ c2 f2).mono ?_
  rintro e W2 ⟨y, h, rfl, S2, A2⟩
  obtain ⟨rfl, rfl⟩ : x = y ∧ g = h := by
    obtain ⟨a1, a2⟩ := S1.out
    obtain ⟨b1, b2⟩ := S2.out
    exact ⟨a1.trans b1.symm, a2.trans b2.symm⟩
  have d1 := A2.out.cellOf c1 (by simp)
  have e1 := A2.out.frozenOf c1 f1 (by simp)
  have d2 := A2.out.cell
  have B2 : Hid _ := A2.out.on B1.out (by simp; omega)
  clear S1 S2 A2 B1 c1 c2 f1 f2
  have hsV : V.heap.size + 1 < W2.heap.size := World.block_lt_of_cell? _ _ d2
  have hsW' : w.heap.size ≤ W2.heap.size := by omega
  clear hsW
  obtain ⟨p0, hp0⟩ : ∃ p, p = V.heap.size := ⟨_, rfl⟩
  obtain ⟨p1, hp1⟩ : ∃ p, p = V.heap.size + 1 := ⟨_, rfl⟩
  rw [← hp1] at d2 hsV
  rw [← hp0] at d1 e1
  rw [← hp1, ← hp0]
  have hsP : p0 < W2.heap.size := by omega
  clear hp0 hp1
  have hsW : w.heap.size ≤ W2.heap.size := hsW'
  clear hsW'
  have k1 : ∀ q : Nat, q < W2.heap.size → q ≠ W2.heap.size ∧ q ≠ W2.heap.size + 1 := fun q hq => by omega
  have HQ : Hid _ := k1
  clear k1
  go_wp2_with (fail)
  refine (root_law W2.heap.size 0 false a0 _ (by simp) (by simp)).mono ?_
  rintro e W3 ⟨x', g', rfl, S3, A3⟩
  have d1 := A3.out.cellOf (q := ⟨p0, 0, none⟩) (v := .bool g) (by simp [go_sem, hsP, d1]) (HQ.out p0 hsP).1
  have d2 := A3.out.cellOf (q := ⟨p1, 0, none⟩) (v := .bool g) (by simp [go_sem, hsV, d2]) (HQ.out p1 hsV).1
  have c1 := A3.out.cell
  have f1 := A3.out.frozen
  have c2 : W3.cell? ⟨W2.heap.size + 1, 0, none⟩ = some (.bool false) := A3.out.cellOf (by simp) (by simp)
  have f2 : W3.frozen? ⟨W2.heap.size + 1, 0, none⟩ = false := A3.out.frozenOf (v := .bool false) (by simp) (by simp) (by simp)
  have B3 : Hid _ := A3.out.on ((B2.out.alloc hsW _).alloc (by simp; omega) _) hsW
  clear A3 B2
  go_wp2_with (fail)
  refine (rroot_law (W2.heap.size + 1) 0 false a0 _ c2 f2).mono ?_
  rintro e W4 ⟨y', h', rfl, S4, A4⟩
  obtain ⟨rfl, rfl⟩ : x' = y' ∧ g' = h' := by
    obtain ⟨a1, a2⟩ := S3.out
    obtain ⟨b1, b2⟩ := S4.out
    exact ⟨a1.trans b1.symm, a2.trans b2.symm⟩
  have d3 := A4.out.cellOf c1 (by simp)
  have d4 := A4.out.cell
  have d1 := A4.out.cellOf d1 (HQ.out p0 hsP).2
  have d2 := A4.out.cellOf d2 (HQ.out p1 hsV).2
  have B4 : Hid _ := A4.out.on B3.out (by simp; omega)
  clear S3 S4 A4 B3 c1 c2 f1 f2 HQ
  obtain ⟨p2, hp2⟩ : ∃ p, p = W2.heap.size := ⟨_, rfl⟩
  obtain ⟨p3, hp3⟩ : ∃ p, p = W2.heap.size + 1 := ⟨_, rfl⟩
  rw [← hp3] at d4
  rw [← hp2] at d3
  rw [← hp3, ← hp2]
  clear hp2 hp3 hsP hsV hsW
  go_wp2_with (fail)
  go_region
  all_goals go_wp2_with (fail)
  all_goals go_ret
  all_goals exact ⟨ret_bool (by simp), B4.out.drew⟩

/-! ### The row's step, after the guide's template -/
set_option maxRecDepth 100000 in
theorem lifted (os : Os) (started : os.Started) (H : Type) (enc : TypeId × Value → H) :
    ReturnsInHanded {} Try.checked os 4 .any (Rows.fxRatiosSpec.pre6 enc Try.prog Try.f4 Rows.fxRatiosRow.domain false) (Rows.fxRatiosSpec.post enc Try.prog Try.f4 false true false false) := by
  refine returnsInHanded_of_change (C := Try.checked) own started (by kernel_rfl) Try.func4
    (ChangeSpec.witness6 (enc := enc) (C := Try.checked) false ⟨#[], #[.int .i64 0, .int .i64 0, .int .i64 0], []⟩ 8 (by kernel_rfl) (by kernel_rfl) (by kernel_rfl) (by kernel_rfl)) ?_
  intro W base args ds gs before hval0 hW hcnd _
  have hval : ∀ (j : Nat) t v, Try.f4.params[j]? = some t → args[j]? = some v → Value.okWide Try.prog W .any base t v := hval0
  have hW' := hW
  obtain ⟨p, q, hA0, hV, rfl, hfz, hnd⟩ := hW
  have hA : DataW.TrodAll enc Try.prog W 0 (fun _ => true) true Try.f4.params.toList args.toList ds p := hA0
  rw [Try.params4] at hA hval
  obtain ⟨v0, vs0, d0, ds0, p0, q0, hargs, rfl, rfl, h0, r0⟩ := trodAll_cons hA
  obtain ⟨v1, vs1, d1, ds1, p1, q1, rfl, rfl, rfl, h1, r1⟩ := trodAll_cons r0
  obtain ⟨v2, vs2, d2, ds2, p2, q2, rfl, rfl, rfl, h2, r2⟩ := trodAll_cons r1
  obtain ⟨rfl, rfl, rfl⟩ := trodAll_nil r2
  obtain rfl : args = #[v0, v1, v2] := by cases args; simp_all
  obtain ⟨rfl, rfl⟩ := trodVars_none hV
  obtain ⟨a0, rfl, rfl, rfl, w0⟩ := open_int Try.underlying3 (hval 0 3 v0 rfl rfl) h0
  obtain ⟨a1, rfl, rfl, rfl, w1⟩ := open_int Try.underlying3 (hval 1 3 v1 rfl rfl) h1
  obtain ⟨a2, rfl, rfl, rfl, w2⟩ := open_int Try.underlying3 (hval 2 3 v2 rfl rfl) h2
  clear hA0 hval0
  simp only [List.append_nil] at hW'
  refine (walk a0 a1 a2 w0 w1 w2 W).mono fun e W' ⟨he, bel⟩ => ?_
  subst he
  exact ⟨_, rfl, _, _, _, [], [], [], hW', trodAll_mk1 (shut_bool Try.underlying4 _), (trodAll_cons_mk (shut_int Try.underlying3 w0) (trodAll_cons_mk (shut_int Try.underlying3 w1) (trodAll_cons_mk (shut_int Try.underlying3 w2) trodAll_mk0))), rfl, bel.frame _, fun h => by cases h⟩

theorem over : Rows.fxRatiosRow.holds Try.pinned (OpenSpec.ofChange Rows.fxRatiosSpec) :=
  OpenClaim.holds_of_wide 4 Try.f4 rfl rfl rfl rfl rfl rfl rfl ⟨rfl, rfl, rfl, rfl, rfl⟩ rfl rfl rfl rfl rfl (by kernel_rfl) Try.func4 (by kernel_rfl)
    (of_decide_eq_true (by kernel_rfl)) (by unfold Func.isWrapper; first | (rw [if_pos (by decide +kernel)]; kernel_rfl) | (rw [if_neg (by decide +kernel)]; exact ⟨rfl, rfl⟩))
    (fun os started H enc _ => lifted os started H enc)

end fxRatios

theorem fxRatios_holds : Rows.FxRatiosSaid := fxRatios.over
#print axioms fxRatios_holds
end Go.Proofs.Ytbjjpccaiciahaa
