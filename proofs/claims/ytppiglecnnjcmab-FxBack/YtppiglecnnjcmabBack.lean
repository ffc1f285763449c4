/- What was added is taken away again, a product and a ratio do not ask in which order, and what is told twice is told the same: true for all ints. -/
import Derived.Test.YtppiglecnnjcmabLaw
import Derived.Test.YtppiglecnnjcmabRows
import Derived.Deep.RegionHeld3
import Derived.ProofKit
import Derived.OpenShut
namespace Go.Proofs.Ytppiglecnnjcmab
namespace fxBack
open Go.ChangeShapes Go.WideShapes Go.ChangeAt Go.RowKit Fx
set_option linter.unusedVariables false

theorem own : ownKnob Try.prog.godebug = none := by kernel_rfl

theorem step_some {f : Bool} {o : Option Int} {v : Int} (h : Step f o v false) : f = false ∧ o = some v := by
  obtain ⟨a, b⟩ := h
  cases o <;> simp_all
theorem add_some {a b s : Int} (h : add a b = some s) : s = a + b := by
  unfold add told at h
  split at h
  · simp at h
  · split at h <;> simp_all
theorem sub_some {a b s : Int} (h : sub a b = some s) : s = a - b := by
  unfold sub told at h
  split at h
  · simp at h
  · split at h <;> simp_all
theorem mul_swap (a b : Int) : mul a b = mul b a := by unfold mul; rw [Bool.or_comm, Int.mul_comm]
theorem ratio_swap (a b c : Int) : ratio a b c = ratio b a c := by unfold ratio; rw [Int.mul_comm, ← Bool.or_assoc, ← Bool.or_assoc, Bool.or_comm (great a)]

theorem back {a b v1 v2 v3 v4 : Int} {g1 g2 g3 : Bool} (S1 : Step false (add a b) v1 g1) (S2 : Step g1 (sub v1 b) v2 g2) (S3 : Step g2 (sub a b) v3 g3) (S4 : Step g3 (add v3 b) v4 false) : v2 = a ∧ v4 = a := by
  obtain ⟨rfl, e4⟩ := step_some S4
  obtain ⟨rfl, e3⟩ := step_some S3
  obtain ⟨rfl, e2⟩ := step_some S2
  obtain ⟨_, e1⟩ := step_some S1
  have := add_some e1; have := sub_some e2; have := sub_some e3; have := add_some e4
  omega

set_option maxHeartbeats 800000 in
theorem walk (a0 : Int) (a1 : Int) (a2 : Int) (w0 : (Lit.int .i64 a0).wf = true) (w1 : (Lit.int .i64 a1).wf = true) (w2 : (Lit.int .i64 a2).wf = true) (w : World) :
    Calls Try.prog 5 #[.int .i64 a0, .int .i64 a1, .int .i64 a2] w fun e w' => e = .returned (.bool true) ∧ Below w.heap.size w w' := by
  clear w0 w1 w2
  have AW : Hid _ := awake_any w
  go_enter Try.func5, Try.ntmps5
  go_wp2_with (fail)
  refine Calls.mono AW.out ?_
  rintro e V ⟨rfl, hb0⟩
  have HB0 : Hid _ := hb0
  have hs0 : w.heap.size ≤ V.heap.size := hb0.size
  clear hb0
  go_wp2_with (fail)
  refine (add_law V.heap.size 0 false _ _ _ (by simp) (by simp)).mono ?_
  rintro e W1 ⟨v1, g1, rfl, S1, A1⟩
  have HB1 : Hid _ := A1.out.on (HB0.out.alloc hs0 _) hs0
  have c1 := A1.out.cell
  have f1 := A1.out.frozen
  go_wp2_with (fail)
  refine (sub_law V.heap.size 0 g1 _ _ _ c1 f1).mono ?_
  rintro e W2 ⟨v2, g2, rfl, S2, A2⟩
  have HB2 : Hid _ := A2.out.on HB1.out hs0
  have c2 := A2.out.cell
  have f2 := A2.out.frozen
  clear c1 f1
  go_wp2_with (fail)
  refine (sub_law V.heap.size 0 g2 _ _ _ c2 f2).mono ?_
  rintro e W3 ⟨v3, g3, rfl, S3, A3⟩
  have HB3 : Hid _ := A3.out.on HB2.out hs0
  have c3 := A3.out.cell
  have f3 := A3.out.frozen
  clear c2 f2
  go_wp2_with (fail)
  refine (add_law V.heap.size 0 g3 _ _ _ c3 f3).mono ?_
  rintro e W4 ⟨v4, g4, rfl, S4, A4⟩
  have HB4 : Hid _ := A4.out.on HB3.out hs0
  have c4 := A4.out.cell
  have f4 := A4.out.frozen
  have hs4 : Hid _ := HB4.out.size
  clear c3 f3
  have hk : g4 = false → v2 = a0 ∧ v4 = a0 := by
    intro h; subst h; exact back S1.out S2.out S3.out S4.out
  clear A1 A2 A3 HB1 HB2 HB3 S1 S2 S3 S4
  cases g4
  case false =>
    have h2 : (v2 != a0) = false := by rw [(hk rfl).1]; simp
    have h4 : (v4 != a0) = false := by rw [(hk rfl).2]; simp
    clear hk
    go_wp2_with (fail)
    refine (mul_law W4.heap.size 0 false _ _ _ (by simp) (by simp)).mono ?_
    rintro e W5 ⟨v5, g5, rfl, S5, A5⟩
    have HB5 : Hid _ := A5.out.on ((HB4.out.alloc hs4.out _).alloc (by simp; have := hs4.out; omega) _) hs4.out
    have cu5 := A5.out.cell
    have fu5 := A5.out.frozen
    have cv5 := A5.out.cellOf (q := ⟨W4.heap.size + 1, 0, none⟩) (v := .bool false) (by simp) (by simp)
    have fv5 := A5.out.frozenOf (q := ⟨W4.heap.size + 1, 0, none⟩) (v := .bool false) (by simp) (by simp) (by simp)
    go_wp2_with (fail)
    refine (mul_law (W4.heap.size + 1) 0 false _ _ _ cv5 fv5).mono ?_
    rintro e W6 ⟨v6, g6, rfl, S6, A6⟩
    obtain ⟨rfl, rfl⟩ : v6 = v5 ∧ g6 = g5 := by rw [S5.out.1, S5.out.2, S6.out.1, S6.out.2, mul_swap]; exact ⟨rfl, rfl⟩
    have HB6 : Hid _ := A6.out.on HB5.out (by have := hs4.out; simp; omega)
    have cu6 := A6.out.cellOf cu5 (by simp)
    have fu6 := A6.out.frozenOf cu5 fu5 (by simp)
    have cv6 := A6.out.cell
    have fv6 := A6.out.frozen
    clear cu5 fu5 cv5 fv5 A5 HB5
    go_wp2_with (fail)
    refine (ratio_law W4.heap.size 0 g6 _ _ _ _ cu6 fu6).mono ?_
    rintro e W7 ⟨v7, g7, rfl, S7, A7⟩
    have HB7 : Hid _ := A7.out.on HB6.out hs4.out
    have cu7 := A7.out.cell
    have fu7 := A7.out.frozen
    have cv7 := A7.out.cellOf cv6 (by simp)
    have fv7 := A7.out.frozenOf cv6 fv6 (by simp)
    clear cu6 fu6 cv6 fv6 A6 HB6
    go_wp2_with (fail)
    refine (ratio_law (W4.heap.size + 1) 0 g6 _ _ _ _ cv7 fv7).mono ?_
    rintro e W8 ⟨v8, g8, rfl, S8, A8⟩
    obtain ⟨rfl, rfl⟩ : v8 = v7 ∧ g8 = g7 := by rw [S7.out.1, S7.out.2, S8.out.1, S8.out.2, ratio_swap]; exact ⟨rfl, rfl⟩
    have HB8 : Hid _ := A8.out.on HB7.out (by have := hs4.out; simp; omega)
    have cu8 := A8.out.cellOf cu7 (by simp)
    have fu8 := A8.out.frozenOf cu7 fu7 (by simp)
    have cv8 := A8.out.cell
    have fv8 := A8.out.frozen
    clear cu7 fu7 cv7 fv7 A7 HB7
    have C9 : Hid (∀ W : World, W.cell? ⟨W4.heap.size, 0, none⟩ = some (.bool g8) → W.cell? ⟨W4.heap.size + 1, 0, none⟩ = some (.bool g8) → W.frozen? ⟨W4.heap.size, 0, none⟩ = false → Below w.heap.size w W → Calls Try.prog 8 #[.pointer (some ⟨W4.heap.size, 0, none⟩), .int .i64 a0, .int .i64 a1] W fun e W' => e = .returned (.int .i64 v6) ∧ W'.cell? ⟨W4.heap.size, 0, none⟩ = some (.bool g8) ∧ W'.cell? ⟨W4.heap.size + 1, 0, none⟩ = some (.bool g8) ∧ W'.frozen? ⟨W4.heap.size, 0, none⟩ = false ∧ Below w.heap.size w W') := by
      intro W hc hc2 hf hbb
      refine (mul_law W4.heap.size 0 g8 a0 a1 W hc hf).mono ?_
      rintro e W9 ⟨v9, g9, rfl, S9, A9⟩
      obtain rfl : g9 = g8 := by
        have e1 := S9.out.2; have e2 := S7.out.2; have e3 := S5.out.2
        rw [e1, e2, e3]
        cases (mul a0 a1).isNone <;> cases (ratio a0 a1 a2).isNone <;> rfl
      exact ⟨by rw [S9.out.1, S5.out.1], A9.out.cell, A9.out.cellOf hc2 (by simp), A9.out.frozen, A9.out.on hbb hs4.out⟩
    have k4 : Below w.heap.size w W8.drew := HB8.out.drew
    clear S5 S7 S8 S6 A8 HB4 c4 f4 A4 fv8 HB8
    go_wp2_with (fail)
    go_region_held3 (fun w' => w'.cell? ⟨W4.heap.size, 0, none⟩ = some (.bool g8) ∧ w'.cell? ⟨W4.heap.size + 1, 0, none⟩ = some (.bool g8) ∧ w'.frozen? ⟨W4.heap.size, 0, none⟩ = false ∧ Below w.heap.size w w') (first | go_keep | (refine ⟨?_, ?_, ?_, ?_⟩ <;> first | assumption | (simp; assumption) | exact Below.drew (by assumption)))
      (first | (go_at_call 8; refine (C9.out _ ?_ ?_ ?_ ?_).mono ?_; (assumption); (assumption); (assumption); (assumption); rintro e W9 ⟨rfl, m1, m2, m3, m4⟩))
    all_goals go_wp2
    all_goals go_ret
    all_goals exact ⟨ret_bool (by simp), by assumption⟩
  case true =>
    clear hk
    go_wp2_with (fail)
    refine (mul_law W4.heap.size 0 false _ _ _ (by simp) (by simp)).mono ?_
    rintro e W5 ⟨v5, g5, rfl, S5, A5⟩
    have HB5 : Hid _ := A5.out.on ((HB4.out.alloc hs4.out _).alloc (by simp; have := hs4.out; omega) _) hs4.out
    have cu5 := A5.out.cell
    have fu5 := A5.out.frozen
    have cv5 := A5.out.cellOf (q := ⟨W4.heap.size + 1, 0, none⟩) (v := .bool false) (by simp) (by simp)
    have fv5 := A5.out.frozenOf (q := ⟨W4.heap.size + 1, 0, none⟩) (v := .bool false) (by simp) (by simp) (by simp)
    go_wp2_with (fail)
    refine (mul_law (W4.heap.size + 1) 0 false _ _ _ cv5 fv5).mono ?_
    rintro e W6 ⟨v6, g6, rfl, S6, A6⟩
    obtain ⟨rfl, rfl⟩ : v6 = v5 ∧ g6 = g5 := by rw [S5.out.1, S5.out.2, S6.out.1, S6.out.2, mul_swap]; exact ⟨rfl, rfl⟩
    have HB6 : Hid _ := A6.out.on HB5.out (by have := hs4.out; simp; omega)
    have cu6 := A6.out.cellOf cu5 (by simp)
    have fu6 := A6.out.frozenOf cu5 fu5 (by simp)
    have cv6 := A6.out.cell
    have fv6 := A6.out.frozen
    clear cu5 fu5 cv5 fv5 A5 HB5
    go_wp2_with (fail)
    refine (ratio_law W4.heap.size 0 g6 _ _ _ _ cu6 fu6).mono ?_
    rintro e W7 ⟨v7, g7, rfl, S7, A7⟩
    have HB7 : Hid _ := A7.out.on HB6.out hs4.out
    have cu7 := A7.out.cell
    have fu7 := A7.out.frozen
    have cv7 := A7.out.cellOf cv6 (by simp)
    have fv7 := A7.out.frozenOf cv6 fv6 (by simp)
    clear cu6 fu6 cv6 fv6 A6 HB6
    go_wp2_with (fail)
    refine (ratio_law (W4.heap.size + 1) 0 g6 _ _ _ _ cv7 fv7).mono ?_
    rintro e W8 ⟨v8, g8, rfl, S8, A8⟩
    obtain ⟨rfl, rfl⟩ : v8 = v7 ∧ g8 = g7 := by rw [S7.out.1, S7.out.2, S8.out.1, S8.out.2, ratio_swap]; exact ⟨rfl, rfl⟩
    have HB8 : Hid _ := A8.out.on HB7.out (by have := hs4.out; simp; omega)
    have cu8 := A8.out.cellOf cu7 (by simp)
    have fu8 := A8.out.frozenOf cu7 fu7 (by simp)
    have cv8 := A8.out.cell
    have fv8 := A8.out.frozen
    clear cu7 fu7 cv7 fv7 A7 HB7
    have C9 : Hid (∀ W : World, W.cell? ⟨W4.heap.size, 0, none⟩ = some (.bool g8) → W.cell? ⟨W4.heap.size + 1, 0, none⟩ = some (.bool g8) → W.frozen? ⟨W4.heap.size, 0, none⟩ = false → Below w.heap.size w W → Calls Try.prog 8 #[.pointer (some ⟨W4.heap.size, 0, none⟩), .int .i64 a0, .int .i64 a1] W fun e W' => e = .returned (.int .i64 v6) ∧ W'.cell? ⟨W4.heap.size, 0, none⟩ = some (.bool g8) ∧ W'.cell? ⟨W4.heap.size + 1, 0, none⟩ = some (.bool g8) ∧ W'.frozen? ⟨W4.heap.size, 0, none⟩ = false ∧ Below w.heap.size w W') := by
      intro W hc hc2 hf hbb
      refine (mul_law W4.heap.size 0 g8 a0 a1 W hc hf).mono ?_
      rintro e W9 ⟨v9, g9, rfl, S9, A9⟩
      obtain rfl : g9 = g8 := by
        have e1 := S9.out.2; have e2 := S7.out.2; have e3 := S5.out.2
        rw [e1, e2, e3]
        cases (mul a0 a1).isNone <;> cases (ratio a0 a1 a2).isNone <;> rfl
      exact ⟨by rw [S9.out.1, S5.out.1], A9.out.cell, A9.out.cellOf hc2 (by simp), A9.out.frozen, A9.out.on hbb hs4.out⟩
    have k4 : Below w.heap.size w W8.drew := HB8.out.drew
    clear S5 S7 S8 S6 A8 HB4 c4 f4 A4 fv8 HB8
    go_wp2_with (fail)
    go_region_held3 (fun w' => w'.cell? ⟨W4.heap.size, 0, none⟩ = some (.bool g8) ∧ w'.cell? ⟨W4.heap.size + 1, 0, none⟩ = some (.bool g8) ∧ w'.frozen? ⟨W4.heap.size, 0, none⟩ = false ∧ Below w.heap.size w w') (first | go_keep | (refine ⟨?_, ?_, ?_, ?_⟩ <;> first | assumption | (simp; assumption) | exact Below.drew (by assumption)))
      (first | (go_at_call 8; refine (C9.out _ ?_ ?_ ?_ ?_).mono ?_; (assumption); (assumption); (assumption); (assumption); rintro e W9 ⟨rfl, m1, m2, m3, m4⟩))
    all_goals go_wp2
    all_goals go_ret
    all_goals exact ⟨ret_bool (by simp), by assumption⟩

/-! ### The row's step, after the guide's template -/
set_option maxRecDepth 100000 in
theorem lifted (os : Os) (started : os.Started) (H : Type) (enc : TypeId × Value → H) :
    ReturnsInHanded {} Try.checked os 5 .any (Rows.fxBackSpec.pre6 enc Try.prog Try.f5 Rows.fxBackRow.domain false) (Rows.fxBackSpec.post enc Try.prog Try.f5 false true false false) := by
  refine returnsInHanded_of_change (C := Try.checked) own started (by kernel_rfl) Try.func5
    (ChangeSpec.witness6 (enc := enc) (C := Try.checked) false ⟨#[], #[.int .i64 0, .int .i64 0, .int .i64 0], []⟩ 8 (by kernel_rfl) (by kernel_rfl) (by kernel_rfl) (by kernel_rfl)) ?_
  intro W base args ds gs before hval0 hW hcnd _
  have hval : ∀ (j : Nat) t v, Try.f5.params[j]? = some t → args[j]? = some v → Value.okWide Try.prog W .any base t v := hval0
  have hW' := hW
  obtain ⟨p, q, hA0, hV, rfl, hfz, hnd⟩ := hW
  have hA : DataW.TrodAll enc Try.prog W 0 (fun _ => true) true Try.f5.params.toList args.toList ds p := hA0
  rw [Try.params5] at hA hval
  obtain ⟨v0, vs0, d0, ds0, p0, q0, hargs, rfl, rfl, h0, r0⟩ := trodAll_cons hA
  obtain ⟨v1, vs1, d1, ds1, p1, q1, rfl, rfl, rfl, h1, r1⟩ := trodAll_cons r0
  obtain ⟨v2, vs2, d2, ds2, p2, q2, rfl, rfl, rfl, h2, r2⟩ := trodAll_cons r1
  obtain ⟨rfl, rfl, rfl⟩ := trodAll_nil r2
  obtain rfl : args = #[v0, v1, v2] := by cases args; simp_all
  obtain ⟨rfl, rfl⟩ := trodVars_none hV
  obtain ⟨a0, rfl, rfl, rfl, w0⟩ := open_int Try.underlying3 (hval 0 3 v0 rfl rfl) h0
  obtain ⟨a1, rfl, rfl, rfl, w1⟩ := open_int Try.underlying3 (hval 1 3 v1 rfl rfl) h1
  obtain ⟨a2, rfl, rfl, rfl, w2⟩ := open_int Try.underlying3 (hval 2 3 v2 rfl rfl) h2
  clear hA0 hval0
  simp only [List.append_nil] at hW'
  refine (walk a0 a1 a2 w0 w1 w2 W).mono fun e W' ⟨he, bel⟩ => ?_
  subst he
  exact ⟨_, rfl, _, _, _, [], [], [], hW', trodAll_mk1 (shut_bool Try.underlying4 _), (trodAll_cons_mk (shut_int Try.underlying3 w0) (trodAll_cons_mk (shut_int Try.underlying3 w1) (trodAll_cons_mk (shut_int Try.underlying3 w2) trodAll_mk0))), rfl, bel.frame _, fun h => by cases h⟩

theorem over : Rows.fxBackRow.holds Try.pinned (OpenSpec.ofChange Rows.fxBackSpec) :=
  OpenClaim.holds_of_wide 5 Try.f5 rfl rfl rfl rfl rfl rfl rfl ⟨rfl, rfl, rfl, rfl, rfl⟩ rfl rfl rfl rfl rfl (by kernel_rfl) Try.func5 (by kernel_rfl)
    (of_decide_eq_true (by kernel_rfl)) (by unfold Func.isWrapper; first | (rw [if_pos (by decide +kernel)]; kernel_rfl) | (rw [if_neg (by decide +kernel)]; exact ⟨rfl, rfl⟩))
    (fun os started H enc _ => lifted os started H enc)

end fxBack

theorem fxBack_holds : Rows.FxBackSaid := fxBack.over
#print axioms fxBack_holds
end Go.Proofs.Ytppiglecnnjcmab
