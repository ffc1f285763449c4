/- To multiply by what is not below 0 keeps order, roots keep order, and the root of a square is no greater than what was squared: true for all ints. -/
import Derived.Test.YtppiglecnnjcmaaLaw
import Derived.Test.YtppiglecnnjcmaaRows
import Derived.ProofKit
import Derived.OpenShut
namespace Go.Proofs.Ytppiglecnnjcmaa
namespace fxOrder
open Go.ChangeShapes Go.WideShapes Go.ChangeAt Go.RowKit Fx
set_option linter.unusedVariables false

theorem own : ownKnob Try.prog.godebug = none := by kernel_rfl

theorem step_some {f : Bool} {o : Option Int} {v : Int} (h : Step f o v false) : f = false ∧ o = some v := by
  obtain ⟨a, b⟩ := h
  cases o <;> simp_all
theorem told_is {n s : Int} (h : told n = some s) : s = n := by
  unfold told at h; split at h <;> simp_all
theorem mul_some {a b s : Int} (h : mul a b = some s) : s = a * b / 4294967296 := by
  unfold mul at h
  split at h
  · simp at h
  · exact told_is h
theorem root_some {a s : Int} (h : root a = some s) : 0 ≤ a ∧ 0 ≤ s ∧ s * s ≤ a * 4294967296 ∧ a * 4294967296 < (s + 1) * (s + 1) := by
  unfold root at h
  split at h
  · simp at h
  · split at h
    · simp at h
    · have e := told_is h
      obtain ⟨p, q⟩ := isq_is (a * 4294967296).toNat
      generalize isq (a * 4294967296).toNat = r at *
      have p' := Int.ofNat_le.2 p
      have q' := Int.ofNat_lt.2 q
      rw [Int.toNat_of_nonneg (by omega), Int.natCast_mul] at p' q'
      rw [Int.natCast_add] at q'
      subst e
      exact ⟨by omega, by omega, p', q'⟩
theorem sq_lt {x y : Int} (hx : 0 ≤ x) (hy : 0 ≤ y) (h : x * x < (y + 1) * (y + 1)) : x ≤ y := by
  rcases Int.lt_or_le y x with g | g
  · exfalso
    have := Int.mul_le_mul (show y + 1 ≤ x by omega) (show y + 1 ≤ x by omega) (by omega) hx
    omega
  · exact g

theorem keeps {l h c x y : Int} {g1 : Bool} (hc : 0 ≤ c) (hlh : l ≤ h) (S1 : Step false (mul l c) x g1) (S2 : Step g1 (mul h c) y false) : x ≤ y := by
  obtain ⟨rfl, e2⟩ := step_some S2
  obtain ⟨_, e1⟩ := step_some S1
  rw [mul_some e1, mul_some e2]
  exact Int.ediv_le_ediv (by omega) (Int.mul_le_mul_of_nonneg_right hlh hc)
theorem roots {l h x y : Int} {g1 : Bool} (hlh : l ≤ h) (S1 : Step false (root l) x g1) (S2 : Step g1 (root h) y false) : x ≤ y := by
  obtain ⟨rfl, e2⟩ := step_some S2
  obtain ⟨_, e1⟩ := step_some S1
  obtain ⟨_, a1, a2, a3⟩ := root_some e1
  obtain ⟨_, b1, b2, b3⟩ := root_some e2
  exact sq_lt a1 b1 (by omega)
theorem square {a x y : Int} {g1 : Bool} (S1 : Step false (mul a a) x g1) (S2 : Step g1 (root x) y false) : y ≤ a ∧ 0 ≤ a ∨ y ≤ -a ∧ a < 0 := by
  obtain ⟨rfl, e2⟩ := step_some S2
  obtain ⟨_, e1⟩ := step_some S1
  have ex := mul_some e1
  obtain ⟨_, b1, b2, b3⟩ := root_some e2
  have : x * 4294967296 ≤ a * a := by rw [ex]; omega
  rcases Int.lt_or_le a 0 with g | g
  · refine Or.inr ⟨sq_lt b1 (by omega) ?_, g⟩
    have : (-a + 1) * (-a + 1) = a * a + (-a) + (-a) + 1 := by rw [Int.add_mul, Int.mul_add, Int.neg_mul_neg]; omega
    omega
  · refine Or.inl ⟨sq_lt b1 g ?_, g⟩
    have : (a + 1) * (a + 1) = a * a + a + a + 1 := by rw [Int.add_mul, Int.mul_add]; omega
    omega

theorem ends {a x y : Int} {g1 : Bool} (S1 : Step false (mul a a) x g1) (S2 : Step g1 (root x) y false) : -9223372036854775808 < a := by
  obtain ⟨rfl, e2⟩ := step_some S2
  obtain ⟨_, e1⟩ := step_some S1
  unfold mul at e1
  split at e1
  · simp at e1
  · rename_i h
    have : great a = false := by simpa using h
    have := (not_great a).1 this
    omega

set_option maxHeartbeats 8000000 in
theorem walk (a0 : Int) (a1 : Int) (a2 : Int) (w0 : (Lit.int .i64 a0).wf = true) (w1 : (Lit.int .i64 a1).wf = true) (w2 : (Lit.int .i64 a2).wf = true) (w : World) :
    Calls Try.prog 8 #[.int .i64 a0, .int .i64 a1, .int .i64 a2] w fun e w' => e = .returned (.bool true) ∧ Below w.heap.size w w' := by
  have b0 := bounds_i64 w0
  have b1 := bounds_i64 w1
  have b2 := bounds_i64 w2
  clear w0 w1 w2
  have AW : Hid _ := awake_any w
  have hc : a2 < 0 ∨ 0 ≤ a2 := by omega
  rcases Int.lt_trichotomy a0 a1 with hl | rfl | hl <;> rcases hc with hc | hc
  all_goals
    go_enter Try.func8, Try.ntmps8
    go_wp2_with (fail)
    refine Calls.mono AW.out ?_
    rintro e V ⟨rfl, hb0⟩
    have HB0 : Hid _ := hb0
    have hs0 : w.heap.size ≤ V.heap.size := hb0.size
    clear hb0 AW
    go_wp2_with (fail)
    refine (mul_law V.heap.size 0 false _ _ _ (by simp) (by simp)).mono ?_
    rintro e W1 ⟨v1, g1, rfl, S1, A1⟩
    have HB1 : Hid _ := A1.out.on (HB0.out.alloc hs0 _) hs0
    have c1 := A1.out.cell
    have f1 := A1.out.frozen
    clear A1 HB0
    go_wp2_with (fail)
    refine (mul_law V.heap.size 0 g1 _ _ _ c1 f1).mono ?_
    rintro e W2 ⟨v2, g2, rfl, S2, A2⟩
    have HB2 : Hid _ := A2.out.on HB1.out hs0
    have hs2 : w.heap.size ≤ W2.heap.size := HB2.out.size
    have c2 := A2.out.cell
    have f2 := A2.out.frozen
    clear A2 HB1 c1 f1
    have hr : g2 = true ∨ v1 ≤ v2 := by
      cases g2
      · exact Or.inr (keeps (by omega) (by omega) S1.out S2.out)
      · exact Or.inl rfl
    clear S1 S2
    have hr' : g2 = true ∨ g2 = false ∧ v1 ≤ v2 := by cases g2 <;> simp_all
    clear hr
    rcases hr' with rfl | ⟨rfl, hr⟩
    all_goals
      go_wp2_with (fail)
      refine (root_law W2.heap.size 0 false _ _ (by simp) (by simp)).mono ?_
      rintro e W3 ⟨v3, g3, rfl, S3, A3⟩
      have HB3 : Hid _ := A3.out.on (HB2.out.alloc hs2 _) hs2
      have c3 := A3.out.cell
      have f3 := A3.out.frozen
      clear A3 HB2
      go_wp2_with (fail)
      refine (root_law W2.heap.size 0 g3 _ _ c3 f3).mono ?_
      rintro e W4 ⟨v4, g4, rfl, S4, A4⟩
      have HB4 : Hid _ := A4.out.on HB3.out hs2
      have hs4 : w.heap.size ≤ W4.heap.size := HB4.out.size
      have c4 := A4.out.cell
      have f4 := A4.out.frozen
      clear A4 HB3 c3 f3
      have hr : g4 = true ∨ v3 ≤ v4 := by
        cases g4
        · exact Or.inr (roots (by omega) S3.out S4.out)
        · exact Or.inl rfl
      clear S3 S4
      have hr' : g4 = true ∨ g4 = false ∧ v3 ≤ v4 := by cases g4 <;> simp_all
      clear hr
      rcases hr' with rfl | ⟨rfl, hr⟩
      all_goals
        go_wp2_with (fail)
        refine (mul_law W4.heap.size 0 false _ _ _ (by simp) (by simp)).mono ?_
        rintro e W5 ⟨v5, g5, rfl, S5, A5⟩
        have HB5 : Hid _ := A5.out.on (HB4.out.alloc hs4 _) hs4
        have c5 := A5.out.cell
        have f5 := A5.out.frozen
        clear A5 HB4
        go_wp2_with (fail)
        refine (root_law W4.heap.size 0 g5 _ _ c5 f5).mono ?_
        rintro e W6 ⟨v6, g6, rfl, S6, A6⟩
        have HB6 : Hid _ := A6.out.on HB5.out hs4
        have c6 := A6.out.cell
        have f6 := A6.out.frozen
        clear A6 HB5 c5 f5
        have hq : g6 = false → (-9223372036854775808 < a0) ∧ (v6 ≤ a0 ∧ 0 ≤ a0 ∨ v6 ≤ -a0 ∧ a0 < 0) := by
          intro e; subst e; exact ⟨ends S5.out S6.out, square S5.out S6.out⟩
        clear S5 S6
        cases g6
        · have hq := hq rfl
          by_cases h6 : a0 < 0
          · have h6' : v6 ≤ -a0 := by omega
            have h6'' : -9223372036854775808 < a0 := hq.1
            clear hq
            go_wp2_with (fail)
            go_ret
            exact ⟨ret_bool (by first | (simp; done) | (simp; omega)), HB6.out⟩
          · have h6' : v6 ≤ a0 := by omega
            clear hq
            go_wp2_with (fail)
            go_ret
            exact ⟨ret_bool (by first | (simp; done) | (simp; omega)), HB6.out⟩
        · clear hq
          go_wp2_with (fail)
          all_goals go_ret
          all_goals exact ⟨rfl, HB6.out⟩

/-! ### The row's step, after the guide's template -/
set_option maxRecDepth 100000 in
theorem lifted (os : Os) (started : os.Started) (H : Type) (enc : TypeId × Value → H) :
    ReturnsInHanded {} Try.checked os 8 .any (Rows.fxOrderSpec.pre6 enc Try.prog Try.f8 Rows.fxOrderRow.domain false) (Rows.fxOrderSpec.post enc Try.prog Try.f8 false true false false) := by
  refine returnsInHanded_of_change (C := Try.checked) own started (by kernel_rfl) Try.func8
    (ChangeSpec.witness6 (enc := enc) (C := Try.checked) false ⟨#[], #[.int .i64 0, .int .i64 0, .int .i64 0], []⟩ 8 (by kernel_rfl) (by kernel_rfl) (by kernel_rfl) (by kernel_rfl)) ?_
  intro W base args ds gs before hval0 hW hcnd _
  have hval : ∀ (j : Nat) t v, Try.f8.params[j]? = some t → args[j]? = some v → Value.okWide Try.prog W .any base t v := hval0
  have hW' := hW
  obtain ⟨p, q, hA0, hV, rfl, hfz, hnd⟩ := hW
  have hA : DataW.TrodAll enc Try.prog W 0 (fun _ => true) true Try.f8.params.toList args.toList ds p := hA0
  rw [Try.params8] at hA hval
  obtain ⟨v0, vs0, d0, ds0, p0, q0, hargs, rfl, rfl, h0, r0⟩ := trodAll_cons hA
  obtain ⟨v1, vs1, d1, ds1, p1, q1, rfl, rfl, rfl, h1, r1⟩ := trodAll_cons r0
  obtain ⟨v2, vs2, d2, ds2, p2, q2, rfl, rfl, rfl, h2, r2⟩ := trodAll_cons r1
  obtain ⟨rfl, rfl, rfl⟩ := trodAll_nil r2
  obtain rfl : args = #[v0, v1, v2] := by cases args; simp_all
  obtain ⟨rfl, rfl⟩ := trodVars_none hV
  obtain ⟨a0, rfl, rfl, rfl, w0⟩ := open_int Try.underlying3 (hval 0 3 v0 rfl rfl) h0
  obtain ⟨a1, rfl, rfl, rfl, w1⟩ := open_int Try.underlying3 (hval 1 3 v1 rfl rfl) h1
  obtain ⟨a2, rfl, rfl, rfl, w2⟩ := open_int Try.underlying3 (hval 2 3 v2 rfl rfl) h2
  clear hA0 hval0
  simp only [List.append_nil] at hW'
  refine (walk a0 a1 a2 w0 w1 w2 W).mono fun e W' ⟨he, bel⟩ => ?_
  subst he
  exact ⟨_, rfl, _, _, _, [], [], [], hW', trodAll_mk1 (shut_bool Try.underlying4 _), (trodAll_cons_mk (shut_int Try.underlying3 w0) (trodAll_cons_mk (shut_int Try.underlying3 w1) (trodAll_cons_mk (shut_int Try.underlying3 w2) trodAll_mk0))), rfl, bel.frame _, fun h => by cases h⟩

theorem over : Rows.fxOrderRow.holds Try.pinned (OpenSpec.ofChange Rows.fxOrderSpec) :=
  OpenClaim.holds_of_wide 8 Try.f8 rfl rfl rfl rfl rfl rfl rfl ⟨rfl, rfl, rfl, rfl, rfl⟩ rfl rfl rfl rfl rfl (by kernel_rfl) Try.func8 (by kernel_rfl)
    (of_decide_eq_true (by kernel_rfl)) (by unfold Func.isWrapper; first | (rw [if_pos (by decide +kernel)]; kernel_rfl) | (rw [if_neg (by decide +kernel)]; exact ⟨rfl, rfl⟩))
    (fun os started H enc _ => lifted os started H enc)

end fxOrder

theorem fxOrder_holds : Rows.FxOrderSaid := fxOrder.over
#print axioms fxOrder_holds
end Go.Proofs.Ytppiglecnnjcmaa
