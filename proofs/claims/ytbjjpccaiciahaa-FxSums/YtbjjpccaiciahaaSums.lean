/- Sums, products and quotients are the document's, and so is the flag: true for all ints. -/
import Derived.Test.YtbjjpccaiciahaaAwake
import Derived.Test.YtbjjpccaiciahaaRef7
import Derived.Test.YtbjjpccaiciahaaRows
import Derived.ProofKit
import Derived.OpenShut
namespace Go.Proofs.Ytbjjpccaiciahaa
namespace fxSums
open Go.ChangeShapes Go.WideShapes Go.ChangeAt Go.RowKit Fx
set_option linter.unusedVariables false

theorem own : ownKnob Try.prog.godebug = none := by kernel_rfl

set_option maxHeartbeats 8000000 in
theorem walk (a0 : Int) (a1 : Int) (w0 : (Lit.int .i64 a0).wf = true) (w1 : (Lit.int .i64 a1).wf = true) (w : World) :
    Calls Try.prog 3 #[.int .i64 a0, .int .i64 a1] w fun e w' => e = .returned (.bool true) ∧ Below w.heap.size w w' := by
  clear w0 w1
  have AW : Hid _ := awake_any w
  go_enter Try.func3, Try.ntmps3
  go_wp2_with (fail)
  refine Calls.mono AW.out ?_
  rintro e V ⟨rfl, hb0⟩
  have HB0 : Hid _ := hb0
  clear hb0 AW
  go_wp2_with (fail)
  go_loopw [6] (fun i wr => ∃ k : Nat, k ≤ 4 ∧ i = .int .i64 k ∧ Hid (Below w.heap.size w wr)) (fun i _ => 4 - (intOf i).toNat)
  case atStart => exact ⟨0, by omega, rfl, HB0.out⟩
  case round =>
    clear HB0
    obtain ⟨k, hk, rfl, HB⟩ := hrel
    have hsW : w.heap.size ≤ wr.heap.size := HB.out.size
    by_cases h4 : k = 4
    · subst h4
      go_wp2_with (fail)
      go_ret
      exact ⟨rfl, HB.out⟩
    · have hk3 : k < 4 := by omega
      clear hk h4
      match k, hk3 with
      | 0, _ =>
        go_wp2_with (fail)
        refine (add_law wr.heap.size 0 false a0 a1 _ (by simp) (by simp)).mono ?_
        rintro e W1 ⟨x, g, rfl, S1, A1⟩
        have c1 := A1.out.cell
        have f1 := A1.out.frozen
        have c2 : W1.cell? ⟨wr.heap.size + 1, 0, none⟩ = some (.bool false) := A1.out.cellOf (by simp) (by simp)
        have f2 : W1.frozen? ⟨wr.heap.size + 1, 0, none⟩ = false := A1.out.frozenOf (v := .bool false) (by simp) (by simp) (by simp)
        have B1 : Hid _ := A1.out.on ((HB.out.alloc hsW _).alloc (by simp; omega) _) hsW
        clear A1
        go_wp2_with (fail)
        refine (radd_law (wr.heap.size + 1) 0 false a0 a1 _ c2 f2).mono ?_
        rintro e W2 ⟨y, h, rfl, S2, A2⟩
        obtain ⟨rfl, rfl⟩ : x = y ∧ g = h := by
          obtain ⟨a1, a2⟩ := S1.out
          obtain ⟨b1, b2⟩ := S2.out
          exact ⟨a1.trans b1.symm, a2.trans b2.symm⟩
        have d1 := A2.out.cellOf c1 (by simp)
        have e1 := A2.out.frozenOf c1 f1 (by simp)
        have d2 := A2.out.cell
        have B2 : Hid _ := A2.out.on B1.out (by simp; omega)
        clear S1 S2 A2 B1 c1 c2 f1 f2
        go_wp2_with (fail)
        go_region
        all_goals go_wp2_with (fail)
        all_goals go_roundw
        all_goals try (case rel => exact ⟨1, by omega, by go_num, B2.out.drew⟩)
        all_goals try (case measure => simp [intOf])
      | 1, _ =>
        go_wp2_with (fail)
        refine (sub_law wr.heap.size 0 false a0 a1 _ (by simp) (by simp)).mono ?_
        rintro e W1 ⟨x, g, rfl, S1, A1⟩
        have c1 := A1.out.cell
        have f1 := A1.out.frozen
        have c2 : W1.cell? ⟨wr.heap.size + 1, 0, none⟩ = some (.bool false) := A1.out.cellOf (by simp) (by simp)
        have f2 : W1.frozen? ⟨wr.heap.size + 1, 0, none⟩ = false := A1.out.frozenOf (v := .bool false) (by simp) (by simp) (by simp)
        have B1 : Hid _ := A1.out.on ((HB.out.alloc hsW _).alloc (by simp; omega) _) hsW
        clear A1
        go_wp2_with (fail)
        refine (rsub_law (wr.heap.size + 1) 0 false a0 a1 _ c2 f2).mono ?_
        rintro e W2 ⟨y, h, rfl, S2, A2⟩
        obtain ⟨rfl, rfl⟩ : x = y ∧ g = h := by
          obtain ⟨a1, a2⟩ := S1.out
          obtain ⟨b1, b2⟩ := S2.out
          exact ⟨a1.trans b1.symm, a2.trans b2.symm⟩
        have d1 := A2.out.cellOf c1 (by simp)
        have e1 := A2.out.frozenOf c1 f1 (by simp)
        have d2 := A2.out.cell
        have B2 : Hid _ := A2.out.on B1.out (by simp; omega)
        clear S1 S2 A2 B1 c1 c2 f1 f2
        go_wp2_with (fail)
        go_region
        all_goals go_wp2_with (fail)
        all_goals go_roundw
        all_goals try (case rel => exact ⟨2, by omega, by go_num, B2.out.drew⟩)
        all_goals try (case measure => simp [intOf])
      | 2, _ =>
        go_wp2_with (fail)
        refine (mul_law wr.heap.size 0 false a0 a1 _ (by simp) (by simp)).mono ?_
        rintro e W1 ⟨x, g, rfl, S1, A1⟩
        have c1 := A1.out.cell
        have f1 := A1.out.frozen
        have c2 : W1.cell? ⟨wr.heap.size + 1, 0, none⟩ = some (.bool false) := A1.out.cellOf (by simp) (by simp)
        have f2 : W1.frozen? ⟨wr.heap.size + 1, 0, none⟩ = false := A1.out.frozenOf (v := .bool false) (by simp) (by simp) (by simp)
        have B1 : Hid _ := A1.out.on ((HB.out.alloc hsW _).alloc (by simp; omega) _) hsW
        clear A1
        go_wp2_with (fail)
        refine (rmul_law (wr.heap.size + 1) 0 false a0 a1 _ c2 f2).mono ?_
        rintro e W2 ⟨y, h, rfl, S2, A2⟩
        obtain ⟨rfl, rfl⟩ : x = y ∧ g = h := by
          obtain ⟨a1, a2⟩ := S1.out
          obtain ⟨b1, b2⟩ := S2.out
          exact ⟨a1.trans b1.symm, a2.trans b2.symm⟩
        have d1 := A2.out.cellOf c1 (by simp)
        have e1 := A2.out.frozenOf c1 f1 (by simp)
        have d2 := A2.out.cell
        have B2 : Hid _ := A2.out.on B1.out (by simp; omega)
        clear S1 S2 A2 B1 c1 c2 f1 f2
        go_wp2_with (fail)
        go_region
        all_goals go_wp2_with (fail)
        all_goals go_roundw
        all_goals try (case rel => exact ⟨3, by omega, by go_num, B2.out.drew⟩)
        all_goals try (case measure => simp [intOf])
      | 3, _ =>
        go_wp2_with (fail)
        refine (div_law wr.heap.size 0 false a0 a1 _ (by simp) (by simp)).mono ?_
        rintro e W1 ⟨x, g, rfl, S1, A1⟩
        have c1 := A1.out.cell
        have f1 := A1.out.frozen
        have c2 : W1.cell? ⟨wr.heap.size + 1, 0, none⟩ = some (.bool false) := A1.out.cellOf (by simp) (by simp)
        have f2 : W1.frozen? ⟨wr.heap.size + 1, 0, none⟩ = false := A1.out.frozenOf (v := .bool false) (by simp) (by simp) (by simp)
        have B1 : Hid _ := A1.out.on ((HB.out.alloc hsW _).alloc (by simp; omega) _) hsW
        clear A1
        go_wp2_with (fail)
        refine (rdiv_law (wr.heap.size + 1) 0 false a0 a1 _ c2 f2).mono ?_
        rintro e W2 ⟨y, h, rfl, S2, A2⟩
        obtain ⟨rfl, rfl⟩ : x = y ∧ g = h := by
          obtain ⟨a1, a2⟩ := S1.out
          obtain ⟨b1, b2⟩ := S2.out
          exact ⟨a1.trans b1.symm, a2.trans b2.symm⟩
        have d1 := A2.out.cellOf c1 (by simp)
        have e1 := A2.out.frozenOf c1 f1 (by simp)
        have d2 := A2.out.cell
        have B2 : Hid _ := A2.out.on B1.out (by simp; omega)
        clear S1 S2 A2 B1 c1 c2 f1 f2
        go_wp2_with (fail)
        go_region
        all_goals go_wp2_with (fail)
        all_goals go_roundw
        all_goals try (case rel => exact ⟨4, by omega, by go_num, B2.out.drew⟩)
        all_goals try (case measure => simp [intOf])

/-! ### The row's step, after the guide's template -/
set_option maxRecDepth 100000 in
theorem lifted (os : Os) (started : os.Started) (H : Type) (enc : TypeId × Value → H) :
    ReturnsInHanded {} Try.checked os 3 .any (Rows.fxSumsSpec.pre6 enc Try.prog Try.f3 Rows.fxSumsRow.domain false) (Rows.fxSumsSpec.post enc Try.prog Try.f3 false true false false) := by
  refine returnsInHanded_of_change (C := Try.checked) own started (by kernel_rfl) Try.func3
    (ChangeSpec.witness6 (enc := enc) (C := Try.checked) false ⟨#[], #[.int .i64 0, .int .i64 0], []⟩ 8 (by kernel_rfl) (by kernel_rfl) (by kernel_rfl) (by kernel_rfl)) ?_
  intro W base args ds gs before hval0 hW hcnd _
  have hval : ∀ (j : Nat) t v, Try.f3.params[j]? = some t → args[j]? = some v → Value.okWide Try.prog W .any base t v := hval0
  have hW' := hW
  obtain ⟨p, q, hA0, hV, rfl, hfz, hnd⟩ := hW
  have hA : DataW.TrodAll enc Try.prog W 0 (fun _ => true) true Try.f3.params.toList args.toList ds p := hA0
  rw [Try.params3] at hA hval
  obtain ⟨v0, vs0, d0, ds0, p0, q0, hargs, rfl, rfl, h0, r0⟩ := trodAll_cons hA
  obtain ⟨v1, vs1, d1, ds1, p1, q1, rfl, rfl, rfl, h1, r1⟩ := trodAll_cons r0
  obtain ⟨rfl, rfl, rfl⟩ := trodAll_nil r1
  obtain rfl : args = #[v0, v1] := by cases args; simp_all
  obtain ⟨rfl, rfl⟩ := trodVars_none hV
  obtain ⟨a0, rfl, rfl, rfl, w0⟩ := open_int Try.underlying3 (hval 0 3 v0 rfl rfl) h0
  obtain ⟨a1, rfl, rfl, rfl, w1⟩ := open_int Try.underlying3 (hval 1 3 v1 rfl rfl) h1
  clear hA0 hval0
  simp only [List.append_nil] at hW'
  refine (walk a0 a1 w0 w1 W).mono fun e W' ⟨he, bel⟩ => ?_
  subst he
  exact ⟨_, rfl, _, _, _, [], [], [], hW', trodAll_mk1 (shut_bool Try.underlying4 _), (trodAll_cons_mk (shut_int Try.underlying3 w0) (trodAll_cons_mk (shut_int Try.underlying3 w1) trodAll_mk0)), rfl, bel.frame _, fun h => by cases h⟩

theorem over : Rows.fxSumsRow.holds Try.pinned (OpenSpec.ofChange Rows.fxSumsSpec) :=
  OpenClaim.holds_of_wide 3 Try.f3 rfl rfl rfl rfl rfl rfl rfl ⟨rfl, rfl, rfl, rfl, rfl⟩ rfl rfl rfl rfl rfl (by kernel_rfl) Try.func3 (by kernel_rfl)
    (of_decide_eq_true (by kernel_rfl)) (by unfold Func.isWrapper; first | (rw [if_pos (by decide +kernel)]; kernel_rfl) | (rw [if_neg (by decide +kernel)]; exact ⟨rfl, rfl⟩))
    (fun os started H enc _ => lifted os started H enc)

end fxSums

theorem fxSums_holds : Rows.FxSumsSaid := fxSums.over
#print axioms fxSums_holds
end Go.Proofs.Ytbjjpccaiciahaa
