/- A cross product turned about is the other one, but for the last place; of a vector and itself it is nothing: true for all vectors. -/
import Derived.Test.YtbjjpccaiciahabAwake2
import Derived.Test.YtbjjpccaiciahabOpenV
import Derived.Test.YtbjjpccaiciahabRows
import Derived.ProofKit
import Derived.OpenShut
namespace Go.Proofs.Ytbjjpccaiciahab
namespace vecCross
open Go.ChangeShapes Go.WideShapes Go.ChangeAt Go.RowKit Fx
set_option linter.unusedVariables false

theorem own : ownKnob Try.prog.godebug = none := by kernel_rfl

theorem dot2_some {a b c d u : Int} (h : dot [a, b] [c, d] = some u) : u = (a * c + b * d) / 4294967296 ∧ -4611686018427387903 ≤ u ∧ u ≤ 4611686018427387903 := by
  unfold dot at h
  split at h
  · simp at h
  · split at h
    · simp at h
    · split at h
      · simp at h
      · unfold told at h
        split at h
        · simp at h
        · rename_i hg
          simp only [prods, Int.add_zero, Option.some.injEq] at h
          have hg' := (not_great _).1 (Bool.eq_false_iff.2 hg)
          simp only [prods, Int.add_zero] at hg'
          rw [h] at hg'
          exact ⟨h.symm, hg'.1, hg'.2⟩
theorem both_ways {x1 x2 y1 y2 u v : Int} (h : dot [x1, x2] [y2, -y1] = some u) (h' : dot [y1, y2] [x2, -x1] = some v) : (u + v = 0 ∨ u + v = -1) ∧ -4611686018427387903 ≤ u ∧ u ≤ 4611686018427387903 ∧ -4611686018427387903 ≤ v ∧ v ≤ 4611686018427387903 := by
  obtain ⟨e1, l1, l2⟩ := dot2_some h
  obtain ⟨e2, m1, m2⟩ := dot2_some h'
  refine ⟨?_, l1, l2, m1, m2⟩
  have e3 : y1 * x2 + y2 * -x1 = -(x1 * y2 + x2 * -y1) := by rw [Int.mul_neg, Int.mul_neg, Int.neg_add, Int.mul_comm y1 x2, Int.mul_comm y2 x1]; omega
  rw [e3] at e2
  generalize x1 * y2 + x2 * -y1 = P at *
  omega
theorem self_none {x y v : Int} {bd : Bool} (h : v = cond bd 0 ((dot [x, y] [y, -x]).getD 0)) : v = 0 := by
  cases bd
  · cases hd : dot [x, y] [y, -x] with
    | none => rw [hd] at h; exact h
    | some u =>
      rw [hd] at h
      obtain ⟨e, _⟩ := dot2_some hd
      have z : x * y + y * -x = 0 := by rw [Int.mul_neg, Int.mul_comm]; omega
      rw [z] at e
      rw [h]; simpa using e
  · exact h

set_option maxHeartbeats 8000000 in
theorem walk (a0_0 a0_1 a0_2 a1_0 a1_1 a1_2 : Int) (w0_0 : (Lit.int .i64 a0_0).wf = true) (w0_1 : (Lit.int .i64 a0_1).wf = true) (w0_2 : (Lit.int .i64 a0_2).wf = true) (w1_0 : (Lit.int .i64 a1_0).wf = true) (w1_1 : (Lit.int .i64 a1_1).wf = true) (w1_2 : (Lit.int .i64 a1_2).wf = true) (w : World) :
    Calls Try.prog 3 #[.agg #[.int .i64 a0_0, .int .i64 a0_1, .int .i64 a0_2], .agg #[.int .i64 a1_0, .int .i64 a1_1, .int .i64 a1_2]] w fun e w' => e = .returned (.bool true) ∧ Below w.heap.size w w' := by
  have b0_0 := bounds_i64 w0_0
  have b0_1 := bounds_i64 w0_1
  have b0_2 := bounds_i64 w0_2
  have b1_0 := bounds_i64 w1_0
  have b1_1 := bounds_i64 w1_1
  have b1_2 := bounds_i64 w1_2
  clear w0_0 w0_1 w0_2 w1_0 w1_1 w1_2
  have AW : Hid _ := fun W => awake2_any W
  go_enter Try.func3, Try.ntmps3
  go_wp2_with (fail)
  refine Calls.mono (AW.out _) ?_
  rintro e V ⟨rfl, hb0⟩
  clear AW
  have xpa_0 : V.cell? ⟨w.heap.size, 0, none⟩ = some (.int .i64 a0_0) := cell_after hb0 (by simp [go_sem])
  have xpa_1 : V.cell? ⟨w.heap.size, 1, none⟩ = some (.int .i64 a0_1) := cell_after hb0 (by simp [go_sem])
  have xpa_2 : V.cell? ⟨w.heap.size, 2, none⟩ = some (.int .i64 a0_2) := cell_after hb0 (by simp [go_sem])
  have xpb_0 : V.cell? ⟨w.heap.size + 1, 0, none⟩ = some (.int .i64 a1_0) := cell_after hb0 (by simp [go_sem])
  have xpb_1 : V.cell? ⟨w.heap.size + 1, 1, none⟩ = some (.int .i64 a1_1) := cell_after hb0 (by simp [go_sem])
  have xpb_2 : V.cell? ⟨w.heap.size + 1, 2, none⟩ = some (.int .i64 a1_2) := cell_after hb0 (by simp [go_sem])
  have hsV := hb0.size
  simp only [World.size_alloc] at hsV
  have HB : Hid (Below w.heap.size w V) := below_step (((Below.refl _ _).alloc (by first | (simp; done) | (simp; omega)) _).alloc (by first | (simp; done) | (simp; omega)) _) hb0
  obtain ⟨pa, hpa⟩ : ∃ p, p = w.heap.size := ⟨_, rfl⟩
  obtain ⟨pb, hpb⟩ : ∃ p, p = w.heap.size + 1 := ⟨_, rfl⟩
  clear hb0
  rw [← hpb]
  rw [← hpb] at xpb_0 xpb_1 xpb_2
  rw [← hpa]
  rw [← hpa] at xpa_0 xpa_1 xpa_2
  have hsw : w.heap.size ≤ V.heap.size := HB.out.size
  have qpa : pa < V.heap.size := by omega
  have qpb : pb < V.heap.size := by omega
  clear hpa hpb hsV
  obtain ⟨pw, hpw⟩ : ∃ p, p = V.heap.size := ⟨_, rfl⟩
  have nb := new_after V (.cells #[.bool false] 27)
  have xpa_0 := cell_after nb xpa_0
  have xpa_1 := cell_after nb xpa_1
  have xpa_2 := cell_after nb xpa_2
  have xpb_0 := cell_after nb xpb_0
  have xpb_1 := cell_after nb xpb_1
  have xpb_2 := cell_after nb xpb_2
  have HB : Hid _ := HB.out.alloc HB.out.size (.cells #[.bool false] 27)
  clear nb
  have c : (V.alloc (.cells #[.bool false] 27)).cell? ⟨pw, 0, none⟩ = some (.bool false) := by rw [hpw]; simp
  have f : (V.alloc (.cells #[.bool false] 27)).frozen? ⟨pw, 0, none⟩ = false := by rw [hpw]; simp
  have qw : w.heap.size ≤ pw := by omega
  have qaw : pa < pw := by omega
  have qbw : pb < pw := by omega
  go_wp2_with (fail)
  rw [← hpw]
  refine (vcross_law pw 0 false a0_0 a0_1 a0_2 a1_0 a1_1 a1_2 _ c f).mono ?_
  rintro e W1 ⟨x0, x1, x2, g1, rfl, S1, Z⟩
  have HB : Hid _ := Z.out.below _ _ HB.out qw HB.out.size
  have xpa_0 := Z.out.cellOf xpa_0 (by show pa ≠ pw; omega)
  have xpa_1 := Z.out.cellOf xpa_1 (by show pa ≠ pw; omega)
  have xpa_2 := Z.out.cellOf xpa_2 (by show pa ≠ pw; omega)
  have xpb_0 := Z.out.cellOf xpb_0 (by show pb ≠ pw; omega)
  have xpb_1 := Z.out.cellOf xpb_1 (by show pb ≠ pw; omega)
  have xpb_2 := Z.out.cellOf xpb_2 (by show pb ≠ pw; omega)
  have c := Z.out.cell
  have f := Z.out.frozen
  have qs : pw < W1.heap.size := World.block_lt_of_cell? _ _ c
  clear Z hpw
  obtain ⟨px, hpx⟩ : ∃ p, p = W1.heap.size := ⟨_, rfl⟩
  have nb := new_after W1 (.cells #[.int .i64 x0, .int .i64 x1, .int .i64 x2] 23)
  have xpa_0 := cell_after nb xpa_0
  have xpa_1 := cell_after nb xpa_1
  have xpa_2 := cell_after nb xpa_2
  have xpb_0 := cell_after nb xpb_0
  have xpb_1 := cell_after nb xpb_1
  have xpb_2 := cell_after nb xpb_2
  have f := frozen_after nb c f
  have c := cell_after nb c
  have HB : Hid _ := HB.out.alloc HB.out.size (.cells #[.int .i64 x0, .int .i64 x1, .int .i64 x2] 23)
  clear nb
  have xx0 : (W1.alloc (.cells #[.int .i64 x0, .int .i64 x1, .int .i64 x2] 23)).cell? ⟨px, 0, none⟩ = some (.int .i64 x0) := by rw [hpx]; simp
  have xx1 : (W1.alloc (.cells #[.int .i64 x0, .int .i64 x1, .int .i64 x2] 23)).cell? ⟨px, 1, none⟩ = some (.int .i64 x1) := by rw [hpx]; simp
  have xx2 : (W1.alloc (.cells #[.int .i64 x0, .int .i64 x1, .int .i64 x2] 23)).cell? ⟨px, 2, none⟩ = some (.int .i64 x2) := by rw [hpx]; simp
  have qx : pw < px := by omega
  go_wp2_with (fail)
  rw [← hpx]
  refine (vcross_law pw 0 g1 a1_0 a1_1 a1_2 a0_0 a0_1 a0_2 _ c f).mono ?_
  rintro e W2 ⟨y0, y1, y2, g2, rfl, S2, Z⟩
  have HB : Hid _ := Z.out.below _ _ HB.out qw HB.out.size
  have xpa_0 := Z.out.cellOf xpa_0 (by show pa ≠ pw; omega)
  have xpa_1 := Z.out.cellOf xpa_1 (by show pa ≠ pw; omega)
  have xpa_2 := Z.out.cellOf xpa_2 (by show pa ≠ pw; omega)
  have xpb_0 := Z.out.cellOf xpb_0 (by show pb ≠ pw; omega)
  have xpb_1 := Z.out.cellOf xpb_1 (by show pb ≠ pw; omega)
  have xpb_2 := Z.out.cellOf xpb_2 (by show pb ≠ pw; omega)
  have xx0 := Z.out.cellOf xx0 (by show px ≠ pw; omega)
  have xx1 := Z.out.cellOf xx1 (by show px ≠ pw; omega)
  have xx2 := Z.out.cellOf xx2 (by show px ≠ pw; omega)
  have c := Z.out.cell
  have f := Z.out.frozen
  have qs : pw < W2.heap.size := World.block_lt_of_cell? _ _ c
  have qx2 : px < W2.heap.size := World.block_lt_of_cell? _ _ xx0
  clear Z hpx
  have cc := c
  have ff := f
  cases g2
  · obtain ⟨hg1, o0, o1, o2⟩ := step3_some S2.out
    subst hg1
    obtain ⟨_, u0, u1, u2⟩ := step3_some S1.out
    obtain ⟨s0, l0⟩ := both_ways u0 o0
    obtain ⟨s1, l1⟩ := both_ways u1 o1
    obtain ⟨s2, l2⟩ := both_ways u2 o2
    have HS : Hid ((x0 + y0 = 0 ∨ x0 + y0 = -1) ∧ (x1 + y1 = 0 ∨ x1 + y1 = -1) ∧ (x2 + y2 = 0 ∨ x2 + y2 = -1)) := ⟨s0, s1, s2⟩
    clear S1 S2 o0 o1 o2 u0 u1 u2 s0 s1 s2
    obtain ⟨py, hpy⟩ : ∃ p, p = W2.heap.size := ⟨_, rfl⟩
    have nb := new_after W2 (.cells #[.int .i64 y0, .int .i64 y1, .int .i64 y2] 23)
    have xpa_0 := cell_after nb xpa_0
    have xpa_1 := cell_after nb xpa_1
    have xpa_2 := cell_after nb xpa_2
    have xpb_0 := cell_after nb xpb_0
    have xpb_1 := cell_after nb xpb_1
    have xpb_2 := cell_after nb xpb_2
    have xx0 := cell_after nb xx0
    have xx1 := cell_after nb xx1
    have xx2 := cell_after nb xx2
    have ff := frozen_after nb cc ff
    have cc := cell_after nb cc
    have HB : Hid _ := HB.out.alloc HB.out.size (.cells #[.int .i64 y0, .int .i64 y1, .int .i64 y2] 23)
    have zz0 : (W2.alloc (.cells #[.int .i64 y0, .int .i64 y1, .int .i64 y2] 23)).cell? ⟨py, 0, none⟩ = some (.int .i64 y0) := by rw [hpy]; simp
    have zz1 : (W2.alloc (.cells #[.int .i64 y0, .int .i64 y1, .int .i64 y2] 23)).cell? ⟨py, 1, none⟩ = some (.int .i64 y1) := by rw [hpy]; simp
    have zz2 : (W2.alloc (.cells #[.int .i64 y0, .int .i64 y1, .int .i64 y2] 23)).cell? ⟨py, 2, none⟩ = some (.int .i64 y2) := by rw [hpy]; simp
    clear nb c f
    go_wp2_with (fail)
    go_loop [10] (fun i => ∃ k : Nat, k ≤ 3 ∧ i = .int .i64 k) (fun i => 3 - (intOf i).toNat)
    case atStart => exact ⟨0, by omega, rfl⟩
    case round =>
      obtain ⟨k, hk, rfl⟩ := hrel
      match k, hk with
      | 0, _ =>
        have h := HS.out.1
        rcases h with h | h
        · go_wp2_with (fail)
          go_round
          case rel => exact ⟨1, by omega, by go_num⟩
          case measure => simp [intOf]
        · go_wp2_with (fail)
          go_round
          case rel => exact ⟨1, by omega, by go_num⟩
          case measure => simp [intOf]
      | 1, _ =>
        have h := HS.out.2.1
        rcases h with h | h
        · go_wp2_with (fail)
          go_round
          case rel => exact ⟨2, by omega, by go_num⟩
          case measure => simp [intOf]
        · go_wp2_with (fail)
          go_round
          case rel => exact ⟨2, by omega, by go_num⟩
          case measure => simp [intOf]
      | 2, _ =>
        have h := HS.out.2.2
        rcases h with h | h
        · go_wp2_with (fail)
          go_round
          case rel => exact ⟨3, by omega, by go_num⟩
          case measure => simp [intOf]
        · go_wp2_with (fail)
          go_round
          case rel => exact ⟨3, by omega, by go_num⟩
          case measure => simp [intOf]
      | 3, _ =>
        have nb2 := new_after (W2.alloc (.cells #[.int .i64 y0, .int .i64 y1, .int .i64 y2] 23)) (.cells #[.int .i64 (x0 + y0), .int .i64 (x1 + y1), .int .i64 (x2 + y2)] 3)
        have ff := frozen_after nb2 cc ff
        have cc := cell_after nb2 cc
        have xpa_0 := cell_after nb2 xpa_0
        have xpa_1 := cell_after nb2 xpa_1
        have xpa_2 := cell_after nb2 xpa_2
        have HB : Hid _ := HB.out.alloc HB.out.size (.cells #[.int .i64 (x0 + y0), .int .i64 (x1 + y1), .int .i64 (x2 + y2)] 3)
        clear nb2
        go_wp2_with (fail)
        refine (vcross_law pw 0 false a0_0 a0_1 a0_2 a0_0 a0_1 a0_2 _ cc ff).mono ?_
        rintro e W3 ⟨z0, z1, z2, g3, rfl, S3, Z⟩
        obtain rfl : z0 = 0 := self_none S3.out.1
        obtain rfl : z1 = 0 := self_none S3.out.2.1
        obtain rfl : z2 = 0 := self_none S3.out.2.2.1
        have HB : Hid _ := Z.out.below _ _ HB.out qw HB.out.size
        clear S3 Z
        go_wp2_with (fail)
        go_ret
        exact ⟨rfl, HB.out.alloc HB.out.size _⟩
      | k + 4, hk => omega
  · obtain ⟨py, hpy⟩ : ∃ p, p = W2.heap.size := ⟨_, rfl⟩
    have nb := new_after W2 (.cells #[.int .i64 y0, .int .i64 y1, .int .i64 y2] 23)
    have ff := frozen_after nb cc ff
    have cc := cell_after nb cc
    have HB : Hid _ := HB.out.alloc HB.out.size (.cells #[.int .i64 y0, .int .i64 y1, .int .i64 y2] 23)
    clear nb S1 S2 c f
    go_wp2_with (fail)
    go_ret
    exact ⟨rfl, HB.out⟩

/-! ### The row's step, after the guide's template -/
set_option maxRecDepth 100000 in
theorem lifted (os : Os) (started : os.Started) (H : Type) (enc : TypeId × Value → H) :
    ReturnsInHanded {} Try.checked os 3 .any (Rows.vecCrossSpec.pre6 enc Try.prog Try.f3 Rows.vecCrossRow.domain false) (Rows.vecCrossSpec.post enc Try.prog Try.f3 false true false false) := by
  refine returnsInHanded_of_change (C := Try.checked) own started (by kernel_rfl) Try.func3
    (ChangeSpec.witness6 (enc := enc) (C := Try.checked) false ⟨#[], #[.agg #[.int .i64 0, .int .i64 0, .int .i64 0], .agg #[.int .i64 0, .int .i64 0, .int .i64 0]], []⟩ 8 (by kernel_rfl) (by kernel_rfl) (by kernel_rfl) (by kernel_rfl)) ?_
  intro W base args ds gs before hval0 hW hcnd _
  have hval : ∀ (j : Nat) t v, Try.f3.params[j]? = some t → args[j]? = some v → Value.okWide Try.prog W .any base t v := hval0
  have hW' := hW
  obtain ⟨p, q, hA0, hV, rfl, hfz, hnd⟩ := hW
  have hA : DataW.TrodAll enc Try.prog W 0 (fun _ => true) true Try.f3.params.toList args.toList ds p := hA0
  rw [Try.params3] at hA hval
  obtain ⟨v0, vs0, d0, ds0, p0, q0, hargs, rfl, rfl, h0, r0⟩ := trodAll_cons hA
  obtain ⟨v1, vs1, d1, ds1, p1, q1, rfl, rfl, rfl, h1, r1⟩ := trodAll_cons r0
  obtain ⟨rfl, rfl, rfl⟩ := trodAll_nil r1
  obtain rfl : args = #[v0, v1] := by cases args; simp_all
  obtain ⟨rfl, rfl⟩ := trodVars_none hV
  obtain ⟨a0_0, a0_1, a0_2, rfl, rfl, rfl, w0_0, w0_1, w0_2⟩ := open_vec (hval 0 23 v0 rfl rfl) h0
  obtain ⟨a1_0, a1_1, a1_2, rfl, rfl, rfl, w1_0, w1_1, w1_2⟩ := open_vec (hval 1 23 v1 rfl rfl) h1
  clear hA0 hval0
  simp only [List.append_nil] at hW'
  refine (walk a0_0 a0_1 a0_2 a1_0 a1_1 a1_2 w0_0 w0_1 w0_2 w1_0 w1_1 w1_2 W).mono fun e W' ⟨he, bel⟩ => ?_
  subst he
  exact ⟨_, rfl, _, _, _, [], [], [], hW', trodAll_mk1 (shut_bool Try.underlying4 _), (trodAll_cons_mk (shut_vec w0_0 w0_1 w0_2) (trodAll_cons_mk (shut_vec w1_0 w1_1 w1_2) trodAll_mk0)), rfl, bel.frame _, fun h => by cases h⟩

theorem over : Rows.vecCrossRow.holds Try.pinned (OpenSpec.ofChange Rows.vecCrossSpec) :=
  OpenClaim.holds_of_wide 3 Try.f3 rfl rfl rfl rfl rfl rfl rfl ⟨rfl, rfl, rfl, rfl, rfl⟩ rfl rfl rfl rfl rfl (by kernel_rfl) Try.func3 (by kernel_rfl)
    (of_decide_eq_true (by kernel_rfl)) (by unfold Func.isWrapper; first | (rw [if_pos (by decide +kernel)]; kernel_rfl) | (rw [if_neg (by decide +kernel)]; exact ⟨rfl, rfl⟩))
    (fun os started H enc _ => lifted os started H enc)

end vecCross

theorem vecCross_holds : Rows.VecCrossSaid := vecCross.over
#print axioms vecCross_holds
end Go.Proofs.Ytbjjpccaiciahab
