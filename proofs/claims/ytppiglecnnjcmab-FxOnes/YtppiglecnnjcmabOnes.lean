/- What is multiplied or divided by One is itself, a times b by b is a, and the Norm of one number is its size: true for all ints. -/
import Derived.Test.YtppiglecnnjcmabBad
import Derived.Test.YtppiglecnnjcmabRows
import Derived.ProofKit
import Derived.OpenShut
namespace Go.Proofs.Ytppiglecnnjcmab
namespace fxOnes
open Go.ChangeShapes Go.WideShapes Go.ChangeAt Go.RowKit Fx
set_option linter.unusedVariables false

theorem own : ownKnob Try.prog.godebug = none := by kernel_rfl

theorem told_some {n : Int} (h : great n = false) : told n = some n := by simp [told, h]
theorem mul_one {a : Int} (h : great a = false) : mul a 4294967296 = some a := by
  unfold mul
  rw [h, Int.mul_ediv_cancel _ (by omega), told_some h]; rfl
theorem ratio_one {a : Int} (h : great a = false) : ratio a 4294967296 4294967296 = some a := by
  have e : fl (a * 4294967296) 4294967296 = a := by unfold fl; rw [if_neg (by omega), Int.mul_ediv_cancel _ (by omega)]
  unfold ratio
  rw [h, if_neg (by omega), if_neg (by decide), e, told_some h]
theorem add_zero {a : Int} (h : great a = false) : add a 0 = some a := by
  unfold add
  rw [h, Int.add_zero, told_some h]; rfl
theorem sub_self {a : Int} (h : great a = false) : sub a a = some 0 := by
  unfold sub
  rw [h, Int.sub_self]; rfl
theorem ratio_same {a b : Int} (h : great a = false) (h' : great b = false) (hb : b ≠ 0) : ratio a b b = some a := by
  have e : fl (a * b) b = a := by
    unfold fl
    split
    · rw [← Int.mul_neg, Int.mul_ediv_cancel _ (by omega)]
    · rw [Int.mul_ediv_cancel _ hb]
  unfold ratio
  rw [h, h', if_neg hb, if_neg (by decide), e, told_some h]
theorem norm_one {a : Int} (h : great a = false) : norm [a] = some (max a (-a)) := by
  have hb := (not_great a).1 h
  have e : ((isq (prods [a] [a]).toNat : Nat) : Int) = max a (-a) := by
    refine (isq_of (by omega) ?_ ?_).symm
    · rcases Int.le_total 0 a with g | g
      · rw [Int.max_eq_left (by omega)]; simp [prods]
      · rw [Int.max_eq_right (by omega), Int.neg_mul_neg]; simp [prods]
    · have k : ∀ x : Int, 0 ≤ x → x * x < (x + 1) * (x + 1) := fun x hx => by rw [Int.add_mul, Int.mul_add]; omega
      rcases Int.le_total 0 a with g | g
      · rw [Int.max_eq_left (by omega)]; simp only [prods, Int.add_zero]; exact k a g
      · rw [Int.max_eq_right (by omega)]; simp only [prods, Int.add_zero]; rw [← Int.neg_mul_neg]; exact k (-a) (by omega)
  have g2 : great (max a (-a)) = false := by rw [not_great]; omega
  unfold norm
  rw [if_neg (by simp), if_neg (by simp [h]), e, told_some g2]
theorem norm_three {n : Int} (h0 : 0 ≤ n) (h1 : n < 536870912) : norm [n, 0, 0] = some n := by
  have h : great n = false := by rw [not_great]; omega
  have e : ((isq (prods [n, 0, 0] [n, 0, 0]).toNat : Nat) : Int) = n := by
    refine (isq_of h0 ?_ ?_).symm
    · simp [prods]
    · simp only [prods, Int.add_zero, Int.mul_zero]; rw [Int.add_mul, Int.mul_add]; omega
  unfold norm
  rw [if_neg (by simp), if_neg (by simp [h]; decide), e, told_some h]
theorem root_zero : root 0 = some 0 := rfl

theorem step_is {f : Bool} {o : Option Int} {v : Int} {g : Bool} {x : Int} (h : Step f o v g) (e : o = some x) : x = v ∧ g = f := by
  rw [e] at h
  exact ⟨h.1.symm, by simpa using h.2⟩

set_option maxHeartbeats 2000000 in
theorem walk (a0 : Int) (a1 : Int) (w0 : (Lit.int .i64 a0).wf = true) (w1 : (Lit.int .i64 a1).wf = true) (w : World) :
    Calls Try.prog 3 #[.int .i64 a0, .int .i64 a1] w fun e w' => e = .returned (.bool true) ∧ Below w.heap.size w w' := by
  clear w0 w1
  have AW : Hid _ := awake_any w
  cases hg : (great a0 || great a1)
  case true =>
    go_enter Try.func3, Try.ntmps3
    go_wp2_with (fail)
    refine Calls.mono AW.out ?_
    rintro e V ⟨rfl, hb0⟩
    have hs0 : w.heap.size ≤ V.heap.size := hb0.size
    have HB0 : Hid _ := hb0.alloc hs0 (.cells #[.int .i64 a0, .int .i64 a1] 3)
    have CB : Hid _ := bad2 a0 a1 V
    rw [hg] at CB
    clear hb0 hg
    go_wp2_with (fail)
    refine Calls.mono CB.out ?_
    rintro e V1 ⟨rfl, rfl⟩
    go_wp2_with (fail)
    go_ret
    exact ⟨rfl, HB0.out⟩
  case false =>
    have ga : great a0 = false := by simp at hg; exact hg.1
    have gb : great a1 = false := by simp at hg; exact hg.2
    have hb1 := (not_great a0).1 ga
    obtain ⟨m, htm⟩ : ∃ m, a0.tmod 536870912 = m := ⟨_, rfl⟩
    obtain ⟨s, hsn, hsa⟩ : ∃ s, Hid (norm [a0] = some s) ∧ Hid ((0 ≤ a0 ∧ a0 = s) ∨ (a0 < 0 ∧ -a0 = s)) := ⟨_, norm_one ga, by show _ ∨ _; omega⟩
    have hm0 : -536870912 < m ∧ m < 536870912 := by rw [← htm]; exact ⟨Int.lt_tmod_of_pos a0 (by omega), Int.tmod_lt_of_pos a0 (by omega)⟩
    have GA : Hid _ := ga
    have GB : Hid _ := gb
    go_enter Try.func3, Try.ntmps3
    go_wp2_with (fail)
    refine Calls.mono AW.out ?_
    rintro e V ⟨rfl, hb0⟩
    have hs0 : w.heap.size ≤ V.heap.size := hb0.size
    have HB0 : Hid _ := hb0.alloc hs0 (.cells #[.int .i64 a0, .int .i64 a1] 3)
    have CB : Hid _ := bad2 a0 a1 V
    rw [hg] at CB
    clear hb0 hg ga gb
    go_wp2_with (fail)
    refine Calls.mono CB.out ?_
    rintro e V1 ⟨rfl, hV1⟩
    have hV : Hid _ := hV1
    have hs1 : V1.heap.size = V.heap.size + 1 := by rw [hV1]; simp
    have HB1 : Hid (Below w.heap.size w V1) := by rw [hV1]; exact HB0.out
    clear hV1 CB HB0
    have hs2 : w.heap.size ≤ V1.heap.size := by omega
    clear hs0 hs1
    go_wp2_with (fail)
    refine (mul_law V1.heap.size 0 false _ _ _ (by simp) (by simp)).mono ?_
    rintro e W1 ⟨v, g, rfl, S, A1⟩
    obtain ⟨rfl, rfl⟩ := step_is S.out (mul_one GA.out)
    have c1 := A1.out.cell
    have f1 := A1.out.frozen
    clear S
    go_wp2_with (fail)
    refine (div_law V1.heap.size 0 false _ _ _ c1 f1).mono ?_
    rintro e W2 ⟨v, g, rfl, S, A2⟩
    obtain ⟨rfl, rfl⟩ := step_is S.out (ratio_one GA.out)
    have c2 := A2.out.cell
    have f2 := A2.out.frozen
    clear S
    go_wp2_with (fail)
    refine (add_law V1.heap.size 0 false _ _ _ c2 f2).mono ?_
    rintro e W3 ⟨v, g, rfl, S, A3⟩
    obtain ⟨rfl, rfl⟩ := step_is S.out (add_zero GA.out)
    have c3 := A3.out.cell
    have f3 := A3.out.frozen
    clear S
    go_wp2_with (fail)
    refine (sub_law V1.heap.size 0 false _ _ _ c3 f3).mono ?_
    rintro e W4 ⟨v, g, rfl, S, A4⟩
    obtain ⟨rfl, rfl⟩ := step_is S.out (sub_self GA.out)
    have c4 := A4.out.cell
    have f4 := A4.out.frozen
    clear S
    have HB2 : Hid _ := A4.out.on (A3.out.on (A2.out.on (A1.out.on (HB1.out.alloc hs2 _) hs2) hs2) hs2) hs2
    clear A1 A2 A3 A4 c1 c2 c3 f1 f2 f3 HB1
    by_cases hz : a1 = 0
    · have hz' : (a1 != 0) = false := by simp [hz]
      clear hz GB
      go_wp2_with (fail)
      all_goals rcases hsa.out with ⟨hsg, rfl⟩ | ⟨hsg, rfl⟩
      all_goals
        refine (norm1_law V1.heap.size 0 false _ _ c4 f4).mono ?_
        rintro e W6 ⟨v, g, rfl, S, A6⟩
        obtain ⟨rfl, rfl⟩ := step_is S.out hsn.out
        have c6 := A6.out.cell
        have f6 := A6.out.frozen
        have HB6 : Hid _ := A6.out.on HB2.out hs2
        clear S A6 c4 f4 HB2
        go_wp2_with (fail)
        refine (norm3_law V1.heap.size 0 false _ _ _ _ c6 f6).mono ?_
        rintro e W7 ⟨v, g, rfl, S, A7⟩
        obtain ⟨rfl, rfl⟩ := step_is S.out (norm_three (by omega) (by omega))
        have c7 := A7.out.cell
        have f7 := A7.out.frozen
        have HB7 : Hid _ := A7.out.on HB6.out hs2
        clear S A7 c6 f6 HB6
        go_wp2_with (fail)
        refine (root_law V1.heap.size 0 false _ _ c7 f7).mono ?_
        rintro e W8 ⟨v, g, rfl, S, A8⟩
        obtain ⟨rfl, rfl⟩ := step_is S.out root_zero
        have c8 := A8.out.cell
        have f8 := A8.out.frozen
        have HB8 : Hid _ := A8.out.on HB7.out hs2
        clear S A8 c7 f7 HB7
        go_wp2_with (fail)
        go_ret
        exact ⟨rfl, HB8.out⟩
    · have hz' : (a1 != 0) = true := by simp [hz]
      go_wp2_with (fail)
      refine (ratio_law V1.heap.size 0 false _ _ _ _ c4 f4).mono ?_
      rintro e W5 ⟨v, g, rfl, S, A5⟩
      obtain ⟨rfl, rfl⟩ := step_is S.out (ratio_same GA.out GB.out hz)
      have c5 := A5.out.cell
      have f5 := A5.out.frozen
      have HB3 : Hid _ := A5.out.on HB2.out hs2
      clear S A5 c4 f4 HB2 GB hz
      go_wp2_with (fail)
      all_goals rcases hsa.out with ⟨hsg, rfl⟩ | ⟨hsg, rfl⟩
      all_goals
        refine (norm1_law V1.heap.size 0 false _ _ c5 f5).mono ?_
        rintro e W6 ⟨v, g, rfl, S, A6⟩
        obtain ⟨rfl, rfl⟩ := step_is S.out hsn.out
        have c6 := A6.out.cell
        have f6 := A6.out.frozen
        have HB6 : Hid _ := A6.out.on HB3.out hs2
        clear S A6 c5 f5 HB3
        go_wp2_with (fail)
        refine (norm3_law V1.heap.size 0 false _ _ _ _ c6 f6).mono ?_
        rintro e W7 ⟨v, g, rfl, S, A7⟩
        obtain ⟨rfl, rfl⟩ := step_is S.out (norm_three (by omega) (by omega))
        have c7 := A7.out.cell
        have f7 := A7.out.frozen
        have HB7 : Hid _ := A7.out.on HB6.out hs2
        clear S A7 c6 f6 HB6
        go_wp2_with (fail)
        refine (root_law V1.heap.size 0 false _ _ c7 f7).mono ?_
        rintro e W8 ⟨v, g, rfl, S, A8⟩
        obtain ⟨rfl, rfl⟩ := step_is S.out root_zero
        have c8 := A8.out.cell
        have f8 := A8.out.frozen
        have HB8 : Hid _ := A8.out.on HB7.out hs2
        clear S A8 c7 f7 HB7
        go_wp2_with (fail)
        go_ret
        exact ⟨rfl, HB8.out⟩

/-! ### The row's step, after the guide's template -/
set_option maxRecDepth 100000 in
theorem lifted (os : Os) (started : os.Started) (H : Type) (enc : TypeId × Value → H) :
    ReturnsInHanded {} Try.checked os 3 .any (Rows.fxOnesSpec.pre6 enc Try.prog Try.f3 Rows.fxOnesRow.domain false) (Rows.fxOnesSpec.post enc Try.prog Try.f3 false true false false) := by
  refine returnsInHanded_of_change (C := Try.checked) own started (by kernel_rfl) Try.func3
    (ChangeSpec.witness6 (enc := enc) (C := Try.checked) false ⟨#[], #[.int .i64 0, .int .i64 0], []⟩ 8 (by kernel_rfl) (by kernel_rfl) (by kernel_rfl) (by kernel_rfl)) ?_
  intro W base args ds gs before hval0 hW hcnd _
  have hval : ∀ (j : Nat) t v, Try.f3.params[j]? = some t → args[j]? = some v → Value.okWide Try.prog W .any base t v := hval0
  have hW' := hW
  obtain ⟨p, q, hA0, hV, rfl, hfz, hnd⟩ := hW
  have hA : DataW.TrodAll enc Try.prog W 0 (fun _ => true) true Try.f3.params.toList args.toList ds p := hA0
  rw [Try.params3] at hA hval
  obtain ⟨v0, vs0, d0, ds0, p0, q0, hargs, rfl, rfl, h0, r0⟩ := trodAll_cons hA
  obtain ⟨v1, vs1, d1, ds1, p1, q1, rfl, rfl, rfl, h1, r1⟩ := trodAll_cons r0
  obtain ⟨rfl, rfl, rfl⟩ := trodAll_nil r1
  obtain rfl : args = #[v0, v1] := by cases args; simp_all
  obtain ⟨rfl, rfl⟩ := trodVars_none hV
  obtain ⟨a0, rfl, rfl, rfl, w0⟩ := open_int Try.underlying3 (hval 0 3 v0 rfl rfl) h0
  obtain ⟨a1, rfl, rfl, rfl, w1⟩ := open_int Try.underlying3 (hval 1 3 v1 rfl rfl) h1
  clear hA0 hval0
  simp only [List.append_nil] at hW'
  refine (walk a0 a1 w0 w1 W).mono fun e W' ⟨he, bel⟩ => ?_
  subst he
  exact ⟨_, rfl, _, _, _, [], [], [], hW', trodAll_mk1 (shut_bool Try.underlying4 _), (trodAll_cons_mk (shut_int Try.underlying3 w0) (trodAll_cons_mk (shut_int Try.underlying3 w1) trodAll_mk0)), rfl, bel.frame _, fun h => by cases h⟩

theorem over : Rows.fxOnesRow.holds Try.pinned (OpenSpec.ofChange Rows.fxOnesSpec) :=
  OpenClaim.holds_of_wide 3 Try.f3 rfl rfl rfl rfl rfl rfl rfl ⟨rfl, rfl, rfl, rfl, rfl⟩ rfl rfl rfl rfl rfl (by kernel_rfl) Try.func3 (by kernel_rfl)
    (of_decide_eq_true (by kernel_rfl)) (by unfold Func.isWrapper; first | (rw [if_pos (by decide +kernel)]; kernel_rfl) | (rw [if_neg (by decide +kernel)]; exact ⟨rfl, rfl⟩))
    (fun os started H enc _ => lifted os started H enc)

end fxOnes

theorem fxOnes_holds : Rows.FxOnesSaid := fxOnes.over
#print axioms fxOnes_holds
end Go.Proofs.Ytppiglecnnjcmab
