/- What is made whole is whole, but for 4 in the last place, and what is turned and turned back is the same within a bound: true for all turns and vectors. -/
import Derived.Test.YtchnfokahakgbaaAwake2
import Derived.Test.YtchnfokahakgbaaReg3
import Derived.Test.YtchnfokahakgbaaWMath2
import Derived.Test.YtchnfokahakgbaaOpenV
import Derived.Test.YtchnfokahakgbaaRows
import Derived.ProofKit
import Derived.OpenShut
namespace Go.Proofs.Ytchnfokahakgbaa
namespace vecWhole
open Go.ChangeShapes Go.WideShapes Go.ChangeAt Go.RowKit Fx
set_option linter.unusedVariables false

theorem own : ownKnob Try.prog.godebug = none := by kernel_rfl

set_option maxHeartbeats 1000000 in
theorem small_yes (x y z : Int) (W : World) (hx : -17592186044416 ≤ x ∧ x ≤ 17592186044416) (hy : -17592186044416 ≤ y ∧ y ≤ 17592186044416) (hz : -17592186044416 ≤ z ∧ z ≤ 17592186044416) :
    Calls Try.prog 34 #[.agg #[.int .i64 x, .int .i64 y, .int .i64 z], .int .i64 17592186044416] W fun e W' => e = .returned (.bool true) ∧ Below W.heap.size W W' := by
  go_enter Try.func34, Try.ntmps34
  go_wp2
  go_ret
  exact ⟨ret_bool (by first | rfl | (simp; done) | (simp; omega)), by go_grown⟩
set_option maxHeartbeats 2000000 in
theorem small_no (x y z : Int) (W : World) (h : ¬ ((-17592186044416 ≤ x ∧ x ≤ 17592186044416) ∧ (-17592186044416 ≤ y ∧ y ≤ 17592186044416) ∧ (-17592186044416 ≤ z ∧ z ≤ 17592186044416))) :
    Calls Try.prog 34 #[.agg #[.int .i64 x, .int .i64 y, .int .i64 z], .int .i64 17592186044416] W fun e W' => e = .returned (.bool false) ∧ Below W.heap.size W W' := by
  have h6 : x < -17592186044416 ∨ (-17592186044416 ≤ x ∧ 17592186044416 < x) ∨ (-17592186044416 ≤ x ∧ x ≤ 17592186044416 ∧ y < -17592186044416) ∨ (-17592186044416 ≤ x ∧ x ≤ 17592186044416 ∧ -17592186044416 ≤ y ∧ 17592186044416 < y) ∨ (-17592186044416 ≤ x ∧ x ≤ 17592186044416 ∧ -17592186044416 ≤ y ∧ y ≤ 17592186044416 ∧ z < -17592186044416) ∨ (-17592186044416 ≤ x ∧ x ≤ 17592186044416 ∧ -17592186044416 ≤ y ∧ y ≤ 17592186044416 ∧ -17592186044416 ≤ z ∧ 17592186044416 < z) := by omega
  clear h
  rcases h6 with h | ⟨h, h1⟩ | ⟨h, h1, h2⟩ | ⟨h, h1, h2, h3⟩ | ⟨h, h1, h2, h3, h4⟩ | ⟨h, h1, h2, h3, h4, h5⟩
  all_goals
    go_enter Try.func34, Try.ntmps34
    go_wp2
    go_ret
    exact ⟨ret_bool (by first | rfl | (simp; done) | (simp; omega)), by go_grown⟩
theorem ret_int {x y : Int} (h : x = y) : Ending.returned (.int .i64 x) = .returned (.int .i64 y) := by rw [h]
theorem size_any (n far : Int) (w : World) (h1 : -far ≤ n) (h2 : n ≤ far) (h3 : far ≤ 1125899906842624) :
    Calls Try.prog 35 #[.int .i64 n] w fun e w' => ∃ v : Int, e = .returned (.int .i64 v) ∧ v ≤ far ∧ w' = w := by
  by_cases hn : n < 0
  all_goals
    go_enter Try.func35, Try.ntmps35
    go_wp2
    go_ret
    exact ⟨_, rfl, by omega, rfl⟩
/-- What is told of a turn that is made whole. -/
theorem whole_of {q0 q1 q2 q3 v0 v1 v2 v3 : Int} {g : Bool} (hb : wholeBad q0 q1 q2 q3 = false) (h : v0 = cond (wholeBad q0 q1 q2 q3) 0 ((ratio q0 4294967296 ((norm [q0, q1, q2, q3]).getD 0)).getD 0) ∧ v1 = cond (wholeBad q0 q1 q2 q3) 0 ((ratio q1 4294967296 ((norm [q0, q1, q2, q3]).getD 0)).getD 0) ∧ v2 = cond (wholeBad q0 q1 q2 q3) 0 ((ratio q2 4294967296 ((norm [q0, q1, q2, q3]).getD 0)).getD 0) ∧ v3 = cond (wholeBad q0 q1 q2 q3) 0 ((ratio q3 4294967296 ((norm [q0, q1, q2, q3]).getD 0)).getD 0) ∧ g = (false || wholeBad q0 q1 q2 q3)) :
    g = false ∧ WM.Whole v0 v1 v2 v3 ∧ ∃ l, norm [v0, v1, v2, v3] = some l ∧ 4294967292 ≤ l ∧ l ≤ 4294967300 := by
  obtain ⟨h0, h1, h2, h3, hg⟩ := h
  rw [hb] at h0 h1 h2 h3 hg
  have hlow : ¬ ((norm [q0, q1, q2, q3]).getD 0) < 2147483648 := by
    unfold wholeBad at hb
    rw [Bool.or_eq_false_iff] at hb
    simpa using hb.1
  cases hn : norm [q0, q1, q2, q3] with
  | none => rw [hn] at hlow; exact absurd hlow (by simp)
  | some n =>
    rw [hn] at hlow h0 h1 h2 h3
    simp only [Option.getD_some] at hlow h0 h1 h2 h3
    obtain ⟨a, b, c, d, l, r0, r1, r2, r3, hl, l1, l2, ba, bb, bc, bd, e1, e2⟩ := WM.whole_long hn (by omega)
    rw [r0] at h0
    rw [r1] at h1
    rw [r2] at h2
    rw [r3] at h3
    simp only [cond_false, Option.getD_some] at h0 h1 h2 h3
    subst h0 h1 h2 h3
    exact ⟨hg, ⟨ba, bb, bc, bd, e1, e2⟩, l, hl, l1, l2⟩

theorem leaves_of {w U : World} {p : Addr} (h : Below w.heap.size w U) : Leaves p w U :=
  ⟨h.size, fun q hq _ => ⟨h.cell hq, h.frozen hq⟩, fun B w' hb _ h2 => hb.trans (h.mono h2)⟩

def wholer_bad (pa pw pm : Nat) (a1_0 a1_1 a1_2 m0 m1 m2 m3 m4 m5 m6 m7 m8 t0 t1 t2 b0 b1 b2 : Int) (w8 U : World) : Bool := false || ([(5, false), (6, false)] : List (Nat × Bool)).any (·.2)

def wholer_sh (pa pw pm : Nat) (a1_0 a1_1 a1_2 m0 m1 m2 m3 m4 m5 m6 m7 m8 t0 t1 t2 b0 b1 b2 : Int) (w8 U : World) : Nat → Shape
  | 0 => .is (.pointer (some ⟨pw, 0, none⟩))
  | 1 => .is (.agg #[.int .i64 (m0), .int .i64 (m1), .int .i64 (m2), .int .i64 (m3), .int .i64 (m4), .int .i64 (m5), .int .i64 (m6), .int .i64 (m7), .int .i64 (m8)])
  | 2 => .is (.pointer (some ⟨pw, 0, none⟩))
  | 3 => .is (.agg #[.int .i64 (m0), .int .i64 (m1), .int .i64 (m2), .int .i64 (m3), .int .i64 (m4), .int .i64 (m5), .int .i64 (m6), .int .i64 (m7), .int .i64 (m8)])
  | 4 => .is (.agg #[.int .i64 (a1_0), .int .i64 (a1_1), .int .i64 (a1_2)])
  | 5 => .is (.agg #[.int .i64 (t0), .int .i64 (t1), .int .i64 (t2)])
  | 6 => .is (.agg #[.int .i64 (b0), .int .i64 (b1), .int .i64 (b2)])
  | 7 => .ptr
  | 8 => .ptr
  | _ => .ptr

def wholer_plan (pa pw pm : Nat) (a1_0 a1_1 a1_2 m0 m1 m2 m3 m4 m5 m6 m7 m8 t0 t1 t2 b0 b1 b2 : Int) (w8 U : World) : Plan where
  W := w8
  N := U.heap.size
  p := ⟨pw, 0, none⟩
  fl := ⟨pw, 0, none⟩
  g0 := false
  bad := wholer_bad pa pw pm a1_0 a1_1 a1_2 m0 m1 m2 m3 m4 m5 m6 m7 m8 t0 t1 t2 b0 b1 b2 w8 U
  f := false
  calls := [(5, false), (6, false)]
  tl := 100000
  st := 100001
  r := 0
  res := []
  fixed := [(⟨pa, 0, none⟩, .int .i64 (a1_0)),
    (⟨pa, 1, none⟩, .int .i64 (a1_1)),
    (⟨pa, 2, none⟩, .int .i64 (a1_2)),
    (⟨pm, 0, none⟩, .int .i64 (m0)),
    (⟨pm, 1, none⟩, .int .i64 (m1)),
    (⟨pm, 2, none⟩, .int .i64 (m2)),
    (⟨pm, 3, none⟩, .int .i64 (m3)),
    (⟨pm, 4, none⟩, .int .i64 (m4)),
    (⟨pm, 5, none⟩, .int .i64 (m5)),
    (⟨pm, 6, none⟩, .int .i64 (m6)),
    (⟨pm, 7, none⟩, .int .i64 (m7)),
    (⟨pm, 8, none⟩, .int .i64 (m8))]
  made := [⟨7, 8, [.int .i64 (b0), .int .i64 (b1), .int .i64 (b2)]⟩]

theorem wholer_cn (pa pw pm : Nat) (a1_0 a1_1 a1_2 m0 m1 m2 m3 m4 m5 m6 m7 m8 t0 t1 t2 b0 b1 b2 : Int) (w8 U : World) : ((wholer_plan pa pw pm a1_0 a1_1 a1_2 m0 m1 m2 m3 m4 m5 m6 m7 m8 t0 t1 t2 b0 b1 b2 w8 U).calls.map (·.1)).Nodup := of_decide_eq_true rfl
theorem wholer_mn (pa pw pm : Nat) (a1_0 a1_1 a1_2 m0 m1 m2 m3 m4 m5 m6 m7 m8 t0 t1 t2 b0 b1 b2 : Int) (w8 U : World) : ((wholer_plan pa pw pm a1_0 a1_1 a1_2 m0 m1 m2 m3 m4 m5 m6 m7 m8 t0 t1 t2 b0 b1 b2 w8 U).made.map (·.i)).Nodup := of_decide_eq_true rfl
theorem wholer_bads (pa pw pm : Nat) (a1_0 a1_1 a1_2 m0 m1 m2 m3 m4 m5 m6 m7 m8 t0 t1 t2 b0 b1 b2 : Int) (w8 U : World) : ((wholer_plan pa pw pm a1_0 a1_1 a1_2 m0 m1 m2 m3 m4 m5 m6 m7 m8 t0 t1 t2 b0 b1 b2 w8 U).bad = true → (wholer_plan pa pw pm a1_0 a1_1 a1_2 m0 m1 m2 m3 m4 m5 m6 m7 m8 t0 t1 t2 b0 b1 b2 w8 U).g0 = true ∨ ∃ c ∈ (wholer_plan pa pw pm a1_0 a1_1 a1_2 m0 m1 m2 m3 m4 m5 m6 m7 m8 t0 t1 t2 b0 b1 b2 w8 U).calls, c.2 = true) ∧ ∀ c ∈ (wholer_plan pa pw pm a1_0 a1_1 a1_2 m0 m1 m2 m3 m4 m5 m6 m7 m8 t0 t1 t2 b0 b1 b2 w8 U).calls, c.2 = true → (wholer_plan pa pw pm a1_0 a1_1 a1_2 m0 m1 m2 m3 m4 m5 m6 m7 m8 t0 t1 t2 b0 b1 b2 w8 U).bad = true :=
  bad_any_of _ rfl

theorem wholer_sn (pa pw pm : Nat) (a1_0 a1_1 a1_2 m0 m1 m2 m3 m4 m5 m6 m7 m8 t0 t1 t2 b0 b1 b2 : Int) (w8 U : World) : ((wholer_plan pa pw pm a1_0 a1_1 a1_2 m0 m1 m2 m3 m4 m5 m6 m7 m8 t0 t1 t2 b0 b1 b2 w8 U).made.map (·.s)).Nodup := of_decide_eq_true rfl

set_option maxRecDepth 100000 in
set_option maxHeartbeats 16000000 in
theorem walk (a0_0 a0_1 a0_2 a0_3 a1_0 a1_1 a1_2 : Int) (w0_0 : (Lit.int .i64 a0_0).wf = true) (w0_1 : (Lit.int .i64 a0_1).wf = true) (w0_2 : (Lit.int .i64 a0_2).wf = true) (w0_3 : (Lit.int .i64 a0_3).wf = true) (w1_0 : (Lit.int .i64 a1_0).wf = true) (w1_1 : (Lit.int .i64 a1_1).wf = true) (w1_2 : (Lit.int .i64 a1_2).wf = true) (w : World) :
    Calls Try.prog 5 #[.agg #[.int .i64 a0_0, .int .i64 a0_1, .int .i64 a0_2, .int .i64 a0_3], .agg #[.int .i64 a1_0, .int .i64 a1_1, .int .i64 a1_2]] w fun e w' => e = .returned (.bool true) ∧ Below w.heap.size w w' := by
  have b0_0 := bounds_i64 w0_0
  have b0_1 := bounds_i64 w0_1
  have b0_2 := bounds_i64 w0_2
  have b0_3 := bounds_i64 w0_3
  have b1_0 := bounds_i64 w1_0
  have b1_1 := bounds_i64 w1_1
  have b1_2 := bounds_i64 w1_2
  clear w0_0 w0_1 w0_2 w0_3 w1_0 w1_1 w1_2
  have AW : Hid _ := fun W => awake2_any W
  go_enter Try.func5, Try.ntmps5
  go_wp2_with (fail)
  refine Calls.mono (AW.out _) ?_
  rintro e V ⟨rfl, hb0⟩
  clear AW
  have xpq_0 : V.cell? ⟨w.heap.size, 0, none⟩ = some (.int .i64 a0_0) := cell_after hb0 (by simp [go_sem])
  have xpq_1 : V.cell? ⟨w.heap.size, 1, none⟩ = some (.int .i64 a0_1) := cell_after hb0 (by simp [go_sem])
  have xpq_2 : V.cell? ⟨w.heap.size, 2, none⟩ = some (.int .i64 a0_2) := cell_after hb0 (by simp [go_sem])
  have xpq_3 : V.cell? ⟨w.heap.size, 3, none⟩ = some (.int .i64 a0_3) := cell_after hb0 (by simp [go_sem])
  have xpa_0 : V.cell? ⟨w.heap.size + 1, 0, none⟩ = some (.int .i64 a1_0) := cell_after hb0 (by simp [go_sem])
  have xpa_1 : V.cell? ⟨w.heap.size + 1, 1, none⟩ = some (.int .i64 a1_1) := cell_after hb0 (by simp [go_sem])
  have xpa_2 : V.cell? ⟨w.heap.size + 1, 2, none⟩ = some (.int .i64 a1_2) := cell_after hb0 (by simp [go_sem])
  have hsV := hb0.size
  simp only [World.size_alloc] at hsV
  have HB : Hid (Below w.heap.size w V) := below_step (((Below.refl _ _).alloc (by first | (simp; done) | (simp; omega)) _).alloc (by first | (simp; done) | (simp; omega)) _) hb0
  obtain ⟨pq, hpq⟩ : ∃ p, p = w.heap.size := ⟨_, rfl⟩
  obtain ⟨pa, hpa⟩ : ∃ p, p = w.heap.size + 1 := ⟨_, rfl⟩
  clear hb0
  rw [← hpa]
  rw [← hpa] at xpa_0 xpa_1 xpa_2
  rw [← hpq]
  rw [← hpq] at xpq_0 xpq_1 xpq_2 xpq_3
  have hsw : w.heap.size ≤ V.heap.size := HB.out.size
  have qpq : pq < V.heap.size := by omega
  have qpa : pa < V.heap.size := by omega
  clear hpq hpa hsV
  obtain ⟨pw, hpw⟩ : ∃ p, p = V.heap.size := ⟨_, rfl⟩
  have nb := new_after V (.cells #[.bool false] 27)
  have xpa_0 := cell_after nb xpa_0
  have xpa_1 := cell_after nb xpa_1
  have xpa_2 := cell_after nb xpa_2
  have xpq_0 := cell_after nb xpq_0
  have xpq_1 := cell_after nb xpq_1
  have xpq_2 := cell_after nb xpq_2
  have xpq_3 := cell_after nb xpq_3
  have HB : Hid _ := HB.out.alloc HB.out.size (.cells #[.bool false] 27)
  clear nb
  have c : (V.alloc (.cells #[.bool false] 27)).cell? ⟨pw, 0, none⟩ = some (.bool false) := by rw [hpw]; simp
  have f : (V.alloc (.cells #[.bool false] 27)).frozen? ⟨pw, 0, none⟩ = false := by rw [hpw]; simp
  have qw : w.heap.size ≤ pw := by omega
  have qaw : pa < pw := by omega
  go_wp2_with (fail)
  rw [← hpw]
  refine (vwhole_law pw 0 false a0_0 a0_1 a0_2 a0_3 _ c f).mono ?_
  rintro e W1 ⟨v0, v1, v2, v3, g1, rfl, S1, Z⟩
  have HB : Hid _ := Z.out.below _ _ HB.out qw HB.out.size
  have xpa_0 := Z.out.cellOf xpa_0 (by show pa ≠ pw; omega)
  have xpa_1 := Z.out.cellOf xpa_1 (by show pa ≠ pw; omega)
  have xpa_2 := Z.out.cellOf xpa_2 (by show pa ≠ pw; omega)
  have c := Z.out.cell
  have f := Z.out.frozen
  have q1 : pw < W1.heap.size := World.block_lt_of_cell? _ _ c
  clear Z hpw xpq_0 xpq_1 xpq_2 xpq_3
  have qaW : pa < W1.heap.size := by omega
  have qwW : w.heap.size ≤ W1.heap.size := HB.out.size
  cases hbd : wholeBad a0_0 a0_1 a0_2 a0_3 with
  | true =>
    obtain ⟨rfl, rfl, rfl, rfl, rfl⟩ : 0 = v0 ∧ 0 = v1 ∧ 0 = v2 ∧ 0 = v3 ∧ true = g1 := by
      have h := S1.out
      rw [hbd] at h
      have h2 : v0 = 0 ∧ v1 = 0 ∧ v2 = 0 ∧ v3 = 0 ∧ g1 = true := h
      exact ⟨h2.1.symm, h2.2.1.symm, h2.2.2.1.symm, h2.2.2.2.1.symm, h2.2.2.2.2.symm⟩
    have HB : Hid _ := HB.out.alloc HB.out.size (.cells #[.int .i64 0, .int .i64 0, .int .i64 0, .int .i64 0] 42)
    have f := frozen_after (new_after W1 (.cells #[.int .i64 0, .int .i64 0, .int .i64 0, .int .i64 0] 42)) c f
    have c := cell_after (new_after W1 (.cells #[.int .i64 0, .int .i64 0, .int .i64 0, .int .i64 0] 42)) c
    clear S1 hbd
    go_wp2_with (fail)
    go_ret
    exact ⟨ret_bool (by first | rfl | (simp; done)), HB.out⟩
  | false =>
    obtain ⟨rfl, HW, l, hl, l1, l2⟩ := whole_of hbd S1.out
    have HN : Hid _ := hl
    have HWh : Hid _ := HW
    clear S1 hbd hl HW
    obtain ⟨pp, hpp⟩ : ∃ p, p = W1.heap.size := ⟨_, rfl⟩
    have nb := new_after W1 (.cells #[.int .i64 v0, .int .i64 v1, .int .i64 v2, .int .i64 v3] 42)
    have HB : Hid _ := HB.out.alloc HB.out.size (.cells #[.int .i64 v0, .int .i64 v1, .int .i64 v2, .int .i64 v3] 42)
    have f := frozen_after nb c f
    have c := cell_after nb c
    have xpa_0 := cell_after nb xpa_0
    have xpa_1 := cell_after nb xpa_1
    have xpa_2 := cell_after nb xpa_2
    have xpp_0 : (W1.alloc (.cells #[.int .i64 v0, .int .i64 v1, .int .i64 v2, .int .i64 v3] 42)).cell? ⟨pp, 0, none⟩ = some (.int .i64 v0) := by rw [hpp]; simp
    have xpp_1 : (W1.alloc (.cells #[.int .i64 v0, .int .i64 v1, .int .i64 v2, .int .i64 v3] 42)).cell? ⟨pp, 1, none⟩ = some (.int .i64 v1) := by rw [hpp]; simp
    have xpp_2 : (W1.alloc (.cells #[.int .i64 v0, .int .i64 v1, .int .i64 v2, .int .i64 v3] 42)).cell? ⟨pp, 2, none⟩ = some (.int .i64 v2) := by rw [hpp]; simp
    have xpp_3 : (W1.alloc (.cells #[.int .i64 v0, .int .i64 v1, .int .i64 v2, .int .i64 v3] 42)).cell? ⟨pp, 3, none⟩ = some (.int .i64 v3) := by rw [hpp]; simp
    have qwp : pw < pp := by omega
    clear nb
    obtain ⟨U1, hU1⟩ : ∃ U, U = W1.alloc (.cells #[.int .i64 v0, .int .i64 v1, .int .i64 v2, .int .i64 v3] 42) := ⟨_, rfl⟩
    have hsU1 : pp < U1.heap.size := by rw [hU1, hpp]; simp
    have hsU2 : pp + 1 = U1.heap.size := by rw [hU1, hpp]; simp
    go_wp2_with (fail)
    rw [← hpp]
    rw [← hU1]
    rw [← hU1] at HB f c xpa_0 xpa_1 xpa_2 xpp_0 xpp_1 xpp_2 xpp_3
    rw [hsU2]
    clear hU1 hpp hsU2
    refine (norm4_law pw 0 false v0 v1 v2 v3 U1 c f).mono ?_
    rintro e W2 ⟨n, g2, rfl, S2, Z⟩
    obtain ⟨rfl, rfl⟩ : l = n ∧ false = g2 := by
      have h := S2.out
      rw [HN.out] at h
      have h2 : n = l ∧ g2 = false := h
      exact ⟨h2.1.symm, h2.2.symm⟩
    have HB : Hid _ := Z.out.below _ _ HB.out qw HB.out.size
    have xpa_0 := Z.out.cellOf xpa_0 (by show pa ≠ pw; omega)
    have xpa_1 := Z.out.cellOf xpa_1 (by show pa ≠ pw; omega)
    have xpa_2 := Z.out.cellOf xpa_2 (by show pa ≠ pw; omega)
    have xpp_0 := Z.out.cellOf xpp_0 (by show pp ≠ pw; omega)
    have xpp_1 := Z.out.cellOf xpp_1 (by show pp ≠ pw; omega)
    have xpp_2 := Z.out.cellOf xpp_2 (by show pp ≠ pw; omega)
    have xpp_3 := Z.out.cellOf xpp_3 (by show pp ≠ pw; omega)
    have c := Z.out.cell
    have f := Z.out.frozen
    clear Z S2 HN
    have qpW : pp < W2.heap.size := World.block_lt_of_cell? _ _ xpp_0
    by_cases hin : (-17592186044416 ≤ a1_0 ∧ a1_0 ≤ 17592186044416) ∧ (-17592186044416 ≤ a1_1 ∧ a1_1 ≤ 17592186044416) ∧ (-17592186044416 ≤ a1_2 ∧ a1_2 ≤ 17592186044416)
    · obtain ⟨hX, hY, hZ⟩ := hin
      obtain ⟨hRB, m0, m1, m2, m3, m4, m5, m6, m7, m8, t0, t1, t2, b0, b1, b2, L, ⟨em0, em1, em2, em3, em4, em5, em6, em7, em8⟩, ⟨T0, T1, T2⟩, ⟨B0, B1, B2⟩, hLn, ⟨L0, L1⟩, ⟨y0, z0⟩, ⟨y1, z1⟩, ⟨y2, z2⟩⟩ := WM.turned_back HWh.out hX hY hZ
      have HM : Hid _ := And.intro hRB (And.intro em0 (And.intro em1 (And.intro em2 (And.intro em3 (And.intro em4 (And.intro em5 (And.intro em6 (And.intro em7 em8))))))))
      have HT : Hid _ := And.intro T0 (And.intro T1 T2)
      have HBk : Hid _ := And.intro B0 (And.intro B1 B2)
      have HLn : Hid _ := hLn
      have HY : Hid _ := And.intro (And.intro y0 z0) (And.intro (And.intro y1 z1) (And.intro y2 z2))
      clear hRB em0 em1 em2 em3 em4 em5 em6 em7 em8 T0 T1 T2 B0 B1 B2 hLn y0 z0 y1 z1 y2 z2 HWh
      go_wp2_with (fail)
      refine (small_yes a1_0 a1_1 a1_2 _ hX hY hZ).mono ?_
      rintro e W3 ⟨rfl, hbs⟩
      have HB : Hid (Below w.heap.size w W3) := below_step HB.out hbs
      have f := frozen_after hbs c f
      have c := cell_after hbs c
      have xpa_0 := cell_after hbs xpa_0
      have xpa_1 := cell_after hbs xpa_1
      have xpa_2 := cell_after hbs xpa_2
      have xpp_0 := cell_after hbs xpp_0
      have xpp_1 := cell_after hbs xpp_1
      have xpp_2 := cell_after hbs xpp_2
      have xpp_3 := cell_after hbs xpp_3
      clear hbs
      go_wp2_with (fail)
      refine (vrows_law pw 0 false v0 v1 v2 v3 _ c f).mono ?_
      rintro e W4 ⟨rfl, Z⟩
      obtain ⟨hRB, em0, em1, em2, em3, em4, em5, em6, em7, em8⟩ := HM.out
      rw [hRB] at Z
      rw [hRB]
      simp only [cond_false]
      rw [← em0, ← em1, ← em2, ← em3, ← em4, ← em5, ← em6, ← em7, ← em8]
      clear HM hRB em0 em1 em2 em3 em4 em5 em6 em7 em8
      have HB : Hid _ := Z.out.below _ _ HB.out qw HB.out.size
      have xpa_0 := Z.out.cellOf xpa_0 (by show pa ≠ pw; omega)
      have xpa_1 := Z.out.cellOf xpa_1 (by show pa ≠ pw; omega)
      have xpa_2 := Z.out.cellOf xpa_2 (by show pa ≠ pw; omega)
      have c := Z.out.cell
      have f := Z.out.frozen
      have q4 : pw < W4.heap.size := World.block_lt_of_cell? _ _ c
      clear Z xpp_0 xpp_1 xpp_2 xpp_3
      obtain ⟨pm, hpm⟩ : ∃ p, p = W4.heap.size := ⟨_, rfl⟩
      have nb := new_after W4 (.cells #[.int .i64 m0, .int .i64 m1, .int .i64 m2, .int .i64 m3, .int .i64 m4, .int .i64 m5, .int .i64 m6, .int .i64 m7, .int .i64 m8] 44)
      have HB : Hid _ := HB.out.alloc HB.out.size (.cells #[.int .i64 m0, .int .i64 m1, .int .i64 m2, .int .i64 m3, .int .i64 m4, .int .i64 m5, .int .i64 m6, .int .i64 m7, .int .i64 m8] 44)
      have f := frozen_after nb c f
      have c := cell_after nb c
      have xpa_0 := cell_after nb xpa_0
      have xpa_1 := cell_after nb xpa_1
      have xpa_2 := cell_after nb xpa_2
      have xpm_0 : (W4.alloc (.cells #[.int .i64 m0, .int .i64 m1, .int .i64 m2, .int .i64 m3, .int .i64 m4, .int .i64 m5, .int .i64 m6, .int .i64 m7, .int .i64 m8] 44)).cell? ⟨pm, 0, none⟩ = some (.int .i64 m0) := by rw [hpm]; simp
      have xpm_1 : (W4.alloc (.cells #[.int .i64 m0, .int .i64 m1, .int .i64 m2, .int .i64 m3, .int .i64 m4, .int .i64 m5, .int .i64 m6, .int .i64 m7, .int .i64 m8] 44)).cell? ⟨pm, 1, none⟩ = some (.int .i64 m1) := by rw [hpm]; simp
      have xpm_2 : (W4.alloc (.cells #[.int .i64 m0, .int .i64 m1, .int .i64 m2, .int .i64 m3, .int .i64 m4, .int .i64 m5, .int .i64 m6, .int .i64 m7, .int .i64 m8] 44)).cell? ⟨pm, 2, none⟩ = some (.int .i64 m2) := by rw [hpm]; simp
      have xpm_3 : (W4.alloc (.cells #[.int .i64 m0, .int .i64 m1, .int .i64 m2, .int .i64 m3, .int .i64 m4, .int .i64 m5, .int .i64 m6, .int .i64 m7, .int .i64 m8] 44)).cell? ⟨pm, 3, none⟩ = some (.int .i64 m3) := by rw [hpm]; simp
      have xpm_4 : (W4.alloc (.cells #[.int .i64 m0, .int .i64 m1, .int .i64 m2, .int .i64 m3, .int .i64 m4, .int .i64 m5, .int .i64 m6, .int .i64 m7, .int .i64 m8] 44)).cell? ⟨pm, 4, none⟩ = some (.int .i64 m4) := by rw [hpm]; simp
      have xpm_5 : (W4.alloc (.cells #[.int .i64 m0, .int .i64 m1, .int .i64 m2, .int .i64 m3, .int .i64 m4, .int .i64 m5, .int .i64 m6, .int .i64 m7, .int .i64 m8] 44)).cell? ⟨pm, 5, none⟩ = some (.int .i64 m5) := by rw [hpm]; simp
      have xpm_6 : (W4.alloc (.cells #[.int .i64 m0, .int .i64 m1, .int .i64 m2, .int .i64 m3, .int .i64 m4, .int .i64 m5, .int .i64 m6, .int .i64 m7, .int .i64 m8] 44)).cell? ⟨pm, 6, none⟩ = some (.int .i64 m6) := by rw [hpm]; simp
      have xpm_7 : (W4.alloc (.cells #[.int .i64 m0, .int .i64 m1, .int .i64 m2, .int .i64 m3, .int .i64 m4, .int .i64 m5, .int .i64 m6, .int .i64 m7, .int .i64 m8] 44)).cell? ⟨pm, 7, none⟩ = some (.int .i64 m7) := by rw [hpm]; simp
      have xpm_8 : (W4.alloc (.cells #[.int .i64 m0, .int .i64 m1, .int .i64 m2, .int .i64 m3, .int .i64 m4, .int .i64 m5, .int .i64 m6, .int .i64 m7, .int .i64 m8] 44)).cell? ⟨pm, 8, none⟩ = some (.int .i64 m8) := by rw [hpm]; simp
      have qm : pw < pm := by omega
      clear nb
      obtain ⟨U, hU⟩ : ∃ U, U = W4.alloc (.cells #[.int .i64 m0, .int .i64 m1, .int .i64 m2, .int .i64 m3, .int .i64 m4, .int .i64 m5, .int .i64 m6, .int .i64 m7, .int .i64 m8] 44) := ⟨_, rfl⟩
      have qU : pm < U.heap.size := by rw [hU, hpm]; simp
      go_wp2_with (fail)
      rw [← hpm]
      rw [← hU]
      rw [← hU] at HB f c xpa_0 xpa_1 xpa_2 xpm_0 xpm_1 xpm_2 xpm_3 xpm_4 xpm_5 xpm_6 xpm_7 xpm_8
      clear hU hpm
      obtain ⟨w8, hw8⟩ : ∃ x : World, x = w := ⟨_, rfl⟩
      have HL : Hid (Leaves ⟨pw, 0, none⟩ w8 U) := by show Leaves _ _ _; rw [hw8]; exact leaves_of HB.out
      have q8 : w8.heap.size ≤ U.heap.size := by rw [hw8]; exact HB.out.size
      have HW8 : Hid _ := hw8
      clear hw8 HB
      obtain ⟨T0, T1, T2⟩ := HT.out
      obtain ⟨B0, B1, B2⟩ := HBk.out
      clear HT HBk

      have hπ : (wholer_plan pa pw pm a1_0 a1_1 a1_2 m0 m1 m2 m3 m4 m5 m6 m7 m8 t0 t1 t2 b0 b1 b2 w8 U).Good := by
        refine ⟨?_, Or.inl rfl, Or.inl rfl, ?_, Or.inl rfl, ?_, (wholer_bads pa pw pm a1_0 a1_1 a1_2 m0 m1 m2 m3 m4 m5 m6 m7 m8 t0 t1 t2 b0 b1 b2 w8 U).1, (wholer_bads pa pw pm a1_0 a1_1 a1_2 m0 m1 m2 m3 m4 m5 m6 m7 m8 t0 t1 t2 b0 b1 b2 w8 U).2⟩
        · show w8.heap.size ≤ U.heap.size; omega
        · show pw < U.heap.size; omega
        · intro c hc
          simp only [wholer_plan, List.mem_cons, List.not_mem_nil, or_false] at hc
          rcases hc with rfl | rfl | rfl | rfl | rfl | rfl | rfl | rfl | rfl | rfl | rfl | rfl <;> (show _ < U.heap.size ∧ _ ≠ pw ∧ _ ≠ pw) <;> (dsimp only) <;> omega
      refine region_by (shapeVal (wholer_sh pa pw pm a1_0 a1_1 a1_2 m0 m1 m2 m3 m4 m5 m6 m7 m8 t0 t1 t2 b0 b1 b2 w8 U)) (Glob (wholer_plan pa pw pm a1_0 a1_1 a1_2 m0 m1 m2 m3 m4 m5 m6 m7 m8 t0 t1 t2 b0 b1 b2 w8 U)) (by kernel_rfl) (by kernel_rfl) (by kernel_rfl) (by kernel_rfl) (fun _ => 0) ?_ ?_ ?_
      · refine ⟨?_, ?_, ?_, ?_, ?_, ?_, (fun _ _ h => by cases h), (fun _ _ _ _ h => by cases h)⟩
        · exact HL.out.drew
        · exact Nat.le_refl _
        · exact ⟨false, c, f, fun h => (by cases h), fun h => h, fun _ _ h => by cases h⟩
        · exact Or.inl rfl
        · exact ⟨[], rfl, fun k v hk => by simp at hk, fun h => by cases h⟩
        · intro x hx
          simp only [wholer_plan, List.mem_cons, List.not_mem_nil, or_false] at hx
          rcases hx with rfl | rfl | rfl | rfl | rfl | rfl | rfl | rfl | rfl | rfl | rfl | rfl <;> assumption
      · generalize hD : dstOf _ = D
        generalize hA : waitsFor _ = A
        generalize hZ : Act.mk _ _ = Z
        have d0 : D 0 = some 54 := by rw [← hD]; rfl
        have d1 : D 1 = some 55 := by rw [← hD]; rfl
        have d2 : D 2 = some 56 := by rw [← hD]; rfl
        have d3 : D 3 = some 57 := by rw [← hD]; rfl
        have d4 : D 4 = some 58 := by rw [← hD]; rfl
        have d5 : D 5 = some 59 := by rw [← hD]; rfl
        have d6 : D 6 = some 60 := by rw [← hD]; rfl
        have d7 : D 7 = some 11 := by rw [← hD]; rfl
        have R3 : ∀ (γ : Nat → Nat) (L : Nat → Bool) (a : Act) (w : World), Held D A (shapeVal (wholer_sh pa pw pm a1_0 a1_1 a1_2 m0 m1 m2 m3 m4 m5 m6 m7 m8 t0 t1 t2 b0 b1 b2 w8 U)) (Glob (wholer_plan pa pw pm a1_0 a1_1 a1_2 m0 m1 m2 m3 m4 m5 m6 m7 m8 t0 t1 t2 b0 b1 b2 w8 U)) Z γ L a w → a.tmps[3]? = some (.pointer (some ⟨pa, 0, none⟩)) := fun γ L a w hH => (hH.rest 3 (by rw [← hD]; exact dst_free (by kernel_rfl))).trans (by rw [← hZ]; rfl)
        have R6 : ∀ (γ : Nat → Nat) (L : Nat → Bool) (a : Act) (w : World), Held D A (shapeVal (wholer_sh pa pw pm a1_0 a1_1 a1_2 m0 m1 m2 m3 m4 m5 m6 m7 m8 t0 t1 t2 b0 b1 b2 w8 U)) (Glob (wholer_plan pa pw pm a1_0 a1_1 a1_2 m0 m1 m2 m3 m4 m5 m6 m7 m8 t0 t1 t2 b0 b1 b2 w8 U)) Z γ L a w → a.tmps[6]? = some (.pointer (some ⟨pw, 0, none⟩)) := fun γ L a w hH => (hH.rest 6 (by rw [← hD]; exact dst_free (by kernel_rfl))).trans (by rw [← hZ]; rfl)
        have R10 : ∀ (γ : Nat → Nat) (L : Nat → Bool) (a : Act) (w : World), Held D A (shapeVal (wholer_sh pa pw pm a1_0 a1_1 a1_2 m0 m1 m2 m3 m4 m5 m6 m7 m8 t0 t1 t2 b0 b1 b2 w8 U)) (Glob (wholer_plan pa pw pm a1_0 a1_1 a1_2 m0 m1 m2 m3 m4 m5 m6 m7 m8 t0 t1 t2 b0 b1 b2 w8 U)) Z γ L a w → a.tmps[10]? = some (.pointer (some ⟨pm, 0, none⟩)) := fun γ L a w hH => (hH.rest 10 (by rw [← hD]; exact dst_free (by kernel_rfl))).trans (by rw [← hZ]; rfl)
        have A_8_7 : A 8 7 := by rw [← hA]; exact ⟨_, rfl, ⟨7, .data⟩, by simp, rfl, rfl⟩
        clear hD hA hZ
        refine AllDo.cons 0 rfl (does_pure _ rfl rfl (fun γ L a w hH hA => by have e1 := R6 γ L a w hH; simp [execOp, go_sem, e1])) ?_
        refine AllDo.cons 1 rfl (does_pure _ rfl rfl (fun γ L a w hH hA => by have e1 := R10 γ L a w hH; have e2 := hH.glob.fix (⟨pm, 0, none⟩, .int .i64 (m0)) (by simp [wholer_plan]); have e3 := hH.glob.fix (⟨pm, 1, none⟩, .int .i64 (m1)) (by simp [wholer_plan]); have e4 := hH.glob.fix (⟨pm, 2, none⟩, .int .i64 (m2)) (by simp [wholer_plan]); have e5 := hH.glob.fix (⟨pm, 3, none⟩, .int .i64 (m3)) (by simp [wholer_plan]); have e6 := hH.glob.fix (⟨pm, 4, none⟩, .int .i64 (m4)) (by simp [wholer_plan]); have e7 := hH.glob.fix (⟨pm, 5, none⟩, .int .i64 (m5)) (by simp [wholer_plan]); have e8 := hH.glob.fix (⟨pm, 6, none⟩, .int .i64 (m6)) (by simp [wholer_plan]); have e9 := hH.glob.fix (⟨pm, 7, none⟩, .int .i64 (m7)) (by simp [wholer_plan]); have e10 := hH.glob.fix (⟨pm, 8, none⟩, .int .i64 (m8)) (by simp [wholer_plan]); simp [execOp, go_sem, e1, e2, e3, e4, e5, e6, e7, e8, e9, e10])) ?_
        refine AllDo.cons 2 rfl (does_pure _ rfl rfl (fun γ L a w hH hA => by have e1 := R6 γ L a w hH; simp [execOp, go_sem, e1])) ?_
        refine AllDo.cons 3 rfl (does_pure _ rfl rfl (fun γ L a w hH hA => by have e1 := R10 γ L a w hH; have e2 := hH.glob.fix (⟨pm, 0, none⟩, .int .i64 (m0)) (by simp [wholer_plan]); have e3 := hH.glob.fix (⟨pm, 1, none⟩, .int .i64 (m1)) (by simp [wholer_plan]); have e4 := hH.glob.fix (⟨pm, 2, none⟩, .int .i64 (m2)) (by simp [wholer_plan]); have e5 := hH.glob.fix (⟨pm, 3, none⟩, .int .i64 (m3)) (by simp [wholer_plan]); have e6 := hH.glob.fix (⟨pm, 4, none⟩, .int .i64 (m4)) (by simp [wholer_plan]); have e7 := hH.glob.fix (⟨pm, 5, none⟩, .int .i64 (m5)) (by simp [wholer_plan]); have e8 := hH.glob.fix (⟨pm, 6, none⟩, .int .i64 (m6)) (by simp [wholer_plan]); have e9 := hH.glob.fix (⟨pm, 7, none⟩, .int .i64 (m7)) (by simp [wholer_plan]); have e10 := hH.glob.fix (⟨pm, 8, none⟩, .int .i64 (m8)) (by simp [wholer_plan]); simp [execOp, go_sem, e1, e2, e3, e4, e5, e6, e7, e8, e9, e10])) ?_
        refine AllDo.cons 4 rfl (does_pure _ rfl rfl (fun γ L a w hH hA => by have e1 := R3 γ L a w hH; have e2 := hH.glob.fix (⟨pa, 0, none⟩, .int .i64 (a1_0)) (by simp [wholer_plan]); have e3 := hH.glob.fix (⟨pa, 1, none⟩, .int .i64 (a1_1)) (by simp [wholer_plan]); have e4 := hH.glob.fix (⟨pa, 2, none⟩, .int .i64 (a1_2)) (by simp [wholer_plan]); simp [execOp, go_sem, e1, e2, e3, e4])) ?_
        refine AllDo.cons 5 rfl (does_call hπ _ (false) rfl (by simp [wholer_plan]) (calls_only (wholer_cn pa pw pm a1_0 a1_1 a1_2 m0 m1 m2 m3 m4 m5 m6 m7 m8 t0 t1 t2 b0 b1 b2 w8 U) (by simp [wholer_plan])) rfl (fun γ L a w hH hA g hg hz => by have e1 := hH.at d2 (rfl : wholer_sh pa pw pm a1_0 a1_1 a1_2 m0 m1 m2 m3 m4 m5 m6 m7 m8 t0 t1 t2 b0 b1 b2 w8 U 2 = _) (hA ⟨2, .data⟩ (by simp) rfl); have e2 := hH.at d3 (rfl : wholer_sh pa pw pm a1_0 a1_1 a1_2 m0 m1 m2 m3 m4 m5 m6 m7 m8 t0 t1 t2 b0 b1 b2 w8 U 3 = _) (hA ⟨3, .data⟩ (by simp) rfl); have e3 := hH.at d4 (rfl : wholer_sh pa pw pm a1_0 a1_1 a1_2 m0 m1 m2 m3 m4 m5 m6 m7 m8 t0 t1 t2 b0 b1 b2 w8 U 4 = _) (hA ⟨4, .data⟩ (by simp) rfl); exact ⟨27, #[.pointer (some ⟨pw, 0, none⟩), .agg #[.int .i64 (m0), .int .i64 (m1), .int .i64 (m2), .int .i64 (m3), .int .i64 (m4), .int .i64 (m5), .int .i64 (m6), .int .i64 (m7), .int .i64 (m8)], .agg #[.int .i64 (a1_0), .int .i64 (a1_1), .int .i64 (a1_2)]], by simp [go_sem, e1, e2, e3], (vturn_law pw 0 g (m0) (m1) (m2) (m3) (m4) (m5) (m6) (m7) (m8) (a1_0) (a1_1) (a1_2) w hg hz).mono (by rintro e W1 ⟨v0, v1, v2, g1, rfl, S, Z⟩; have h := S.out; rw [T0, T1, T2] at h; exact ⟨by rw [h.1, h.2.1, h.2.2.1]; rfl, g1, h.2.2.2, Z.out⟩)⟩)) ?_
        refine AllDo.cons 6 rfl (does_call hπ _ (false) rfl (by simp [wholer_plan]) (calls_only (wholer_cn pa pw pm a1_0 a1_1 a1_2 m0 m1 m2 m3 m4 m5 m6 m7 m8 t0 t1 t2 b0 b1 b2 w8 U) (by simp [wholer_plan])) rfl (fun γ L a w hH hA g hg hz => by have e1 := hH.at d0 (rfl : wholer_sh pa pw pm a1_0 a1_1 a1_2 m0 m1 m2 m3 m4 m5 m6 m7 m8 t0 t1 t2 b0 b1 b2 w8 U 0 = _) (hA ⟨0, .data⟩ (by simp) rfl); have e2 := hH.at d1 (rfl : wholer_sh pa pw pm a1_0 a1_1 a1_2 m0 m1 m2 m3 m4 m5 m6 m7 m8 t0 t1 t2 b0 b1 b2 w8 U 1 = _) (hA ⟨1, .data⟩ (by simp) rfl); have e3 := hH.at d5 (rfl : wholer_sh pa pw pm a1_0 a1_1 a1_2 m0 m1 m2 m3 m4 m5 m6 m7 m8 t0 t1 t2 b0 b1 b2 w8 U 5 = _) (hA ⟨5, .data⟩ (by simp) rfl); exact ⟨31, #[.pointer (some ⟨pw, 0, none⟩), .agg #[.int .i64 (m0), .int .i64 (m1), .int .i64 (m2), .int .i64 (m3), .int .i64 (m4), .int .i64 (m5), .int .i64 (m6), .int .i64 (m7), .int .i64 (m8)], .agg #[.int .i64 (t0), .int .i64 (t1), .int .i64 (t2)]], by simp [go_sem, e1, e2, e3], (vback_law pw 0 g (m0) (m1) (m2) (m3) (m4) (m5) (m6) (m7) (m8) (t0) (t1) (t2) w hg hz).mono (by rintro e W1 ⟨v0, v1, v2, g1, rfl, S, Z⟩; have h := S.out; rw [B0, B1, B2] at h; exact ⟨by rw [h.1, h.2.1, h.2.2.1]; rfl, g1, h.2.2.2, Z.out⟩)⟩)) ?_
        refine AllDo.cons 7 rfl (does_makes rfl ⟨7, 8, [.int .i64 (b0), .int .i64 (b1), .int .i64 (b2)]⟩ (by simp [wholer_plan]) rfl (made_only (wholer_mn pa pw pm a1_0 a1_1 a1_2 m0 m1 m2 m3 m4 m5 m6 m7 m8 t0 t1 t2 b0 b1 b2 w8 U) (m := ⟨7, 8, [.int .i64 (b0), .int .i64 (b1), .int .i64 (b2)]⟩) (by simp [wholer_plan])) (Or.inr A_8_7) [.int .i64 0, .int .i64 0, .int .i64 0] 23 rfl (fun h => absurd h (by simp)) (fun γ L a w hH hA => by simp [execOp, go_sem, shapeVal, wholer_sh, upd_self])) ?_
        refine AllDo.cons 8 rfl (does_fill hπ rfl (by simp [wholer_plan]) (by simp [wholer_plan]) (by simp [wholer_plan]) ⟨7, 8, [.int .i64 (b0), .int .i64 (b1), .int .i64 (b2)]⟩ (by simp [wholer_plan]) rfl (by simp [wholer_plan]) (fill_only (wholer_sn pa pw pm a1_0 a1_1 a1_2 m0 m1 m2 m3 m4 m5 m6 m7 m8 t0 t1 t2 b0 b1 b2 w8 U) (m := ⟨7, 8, [.int .i64 (b0), .int .i64 (b1), .int .i64 (b2)]⟩) (by simp [wholer_plan])) (made_only (wholer_mn pa pw pm a1_0 a1_1 a1_2 m0 m1 m2 m3 m4 m5 m6 m7 m8 t0 t1 t2 b0 b1 b2 w8 U) (m := ⟨7, 8, [.int .i64 (b0), .int .i64 (b1), .int .i64 (b2)]⟩) (by simp [wholer_plan])) (fun γ L a w hH hA => ⟨hA ⟨7, .data⟩ (by simp) rfl, fun cs hl hh => by have e1 := hH.ptrAt d7 (rfl : wholer_sh pa pw pm a1_0 a1_1 a1_2 m0 m1 m2 m3 m4 m5 m6 m7 m8 t0 t1 t2 b0 b1 b2 w8 U 7 = _) (hA ⟨7, .data⟩ (by simp) rfl); have e2 := hH.at d6 (rfl : wholer_sh pa pw pm a1_0 a1_1 a1_2 m0 m1 m2 m3 m4 m5 m6 m7 m8 t0 t1 t2 b0 b1 b2 w8 U 6 = _) (hA ⟨6, .data⟩ (by simp) rfl); obtain ⟨u0, u1, u2, rfl⟩ := list3 hl; have zz0 : w.cell? ⟨γ 7, 0, none⟩ = some u0 ∧ w.frozen? ⟨γ 7, 0, none⟩ = false := hh 0 u0 rfl; have zz1 : w.cell? ⟨γ 7, 1, none⟩ = some u1 ∧ w.frozen? ⟨γ 7, 1, none⟩ = false := hh 1 u1 rfl; have zz2 : w.cell? ⟨γ 7, 2, none⟩ = some u2 ∧ w.frozen? ⟨γ 7, 2, none⟩ = false := hh 2 u2 rfl; exact ⟨(((w.setCell ⟨γ 7, 0, none⟩ (.int .i64 (b0))).setCell ⟨γ 7, 1, none⟩ (.int .i64 (b1))).setCell ⟨γ 7, 2, none⟩ (.int .i64 (b2))), by simp [execOp, go_sem, e1, e2, zz0.1, zz0.2, zz1.1, zz1.2, zz2.1, zz2.2], ((((Only.refl _ _).set 0 _).set 1 _).set 2 _), holds3 hh⟩⟩)) ?_
        exact AllDo.nil
      · intro γ a5 w5 L' hL hLo hH
        have hL' : ∀ j, j < 9 → L' j = true := fun j hj => hL j hj
        have ha := held_act hH hL (by kernel_rfl) (by kernel_rfl)
        have hG := hH.glob
        have hfl := hG.flagAll hπ (fun c hc => hL' c.1 (by simp only [wholer_plan, List.mem_cons, List.not_mem_nil, or_false] at hc; rcases hc with rfl | rfl <;> simp))
        have c5 : w5.cell? ⟨pw, 0, none⟩ = some (.bool false) := hfl.1
        have f5 : w5.frozen? ⟨pw, 0, none⟩ = false := hfl.2
        obtain ⟨u1, u2, cs, _, u3, u4⟩ := hG.made ⟨7, 8, _⟩ (by simp [wholer_plan]; rfl) (hL' 7 (by omega))
        obtain rfl := u4 (hL' 8 (by omega))
        have z0 : w5.cell? ⟨γ 7, 0, none⟩ = some (.int .i64 b0) := (u3 0 _ rfl).1
        have z1 : w5.cell? ⟨γ 7, 1, none⟩ = some (.int .i64 b1) := (u3 1 _ rfl).1
        have z2 : w5.cell? ⟨γ 7, 2, none⟩ = some (.int .i64 b2) := (u3 2 _ rfl).1
        have yz : γ 7 ≠ pw := by
          intro e
          rw [e] at z0
          have c9 : w5.cell? ⟨pw, 0, none⟩ = some (.bool false) := hfl.1
          rw [z0] at c9
          cases c9
        have HB5 : Hid (Below w.heap.size w w5) := by
          have h : Leaves ⟨pw, 0, none⟩ w8 w5 := hG.leaves
          have h2 := h.below w8.heap.size w8 (Below.refl _ _) (by show _ ≤ pw; rw [HW8.out]; exact qw) (Nat.le_refl _)
          rw [HW8.out] at h2
          exact h2
        have x0 : w5.cell? ⟨pa, 0, none⟩ = some (.int .i64 a1_0) := hG.fix (⟨pa, 0, none⟩, .int .i64 (a1_0)) (by simp [wholer_plan])
        have x1 : w5.cell? ⟨pa, 1, none⟩ = some (.int .i64 a1_1) := hG.fix (⟨pa, 1, none⟩, .int .i64 (a1_1)) (by simp [wholer_plan])
        have x2 : w5.cell? ⟨pa, 2, none⟩ = some (.int .i64 a1_2) := hG.fix (⟨pa, 2, none⟩, .int .i64 (a1_2)) (by simp [wholer_plan])
        rw [ha]
        clear ha hH hG hL hL' hLo hπ hfl u1 u2 u3 u4 T0 T1 T2 B0 B1 B2 HL HW8 xpa_0 xpa_1 xpa_2 xpm_0 xpm_1 xpm_2 xpm_3 xpm_4 xpm_5 xpm_6 xpm_7 xpm_8 c f
        simp only [putAll, Act.put, List.setIfInBounds_toArray, List.set_cons_zero, List.set_cons_succ, shapeVal, wholer_sh, Nat.zero_add, Nat.reduceAdd]
        obtain ⟨pb, hpb⟩ : ∃ p, p = γ 7 := ⟨_, rfl⟩
        rw [← hpb] at z0 z1 z2 yz
        rw [← hpb]
        clear hpb
        have q5 : pw < w5.heap.size := World.block_lt_of_cell? _ _ c5
        go_wp2_with (fail)
        refine (vlen_law pw 0 false a1_0 a1_1 a1_2 w5 c5 f5).mono ?_
        rintro e W6 ⟨lv, g6, rfl, S6, Z⟩
        obtain ⟨rfl, rfl⟩ : L = lv ∧ false = g6 := by
          have h := S6.out
          rw [HLn.out] at h
          have h2 : lv = L ∧ g6 = false := h
          exact ⟨h2.1.symm, h2.2.symm⟩
        have HB6 : Hid _ := Z.out.below _ _ HB5.out qw HB5.out.size
        have x0 := Z.out.cellOf x0 (by show pa ≠ pw; omega)
        have x1 := Z.out.cellOf x1 (by show pa ≠ pw; omega)
        have x2 := Z.out.cellOf x2 (by show pa ≠ pw; omega)
        have z0 := Z.out.cellOf z0 yz
        have z1 := Z.out.cellOf z1 yz
        have z2 := Z.out.cellOf z2 yz
        have c6 := Z.out.cell
        have f6 := Z.out.frozen
        clear Z S6 HLn HB5 c5 f5
        obtain ⟨⟨y0, k0⟩, ⟨y1, k1⟩, ⟨y2, k2⟩⟩ := HY.out
        have FAR : L / 16777216 + 64 ≤ 1125899906842624 := by omega
        have FAR0 : 0 ≤ L / 16777216 := by omega
        have FAR1 : L / 16777216 ≤ 70368744177664 := by omega
        have o0 : -1125899906842624 ≤ b0 ∧ b0 ≤ 1125899906842624 := by omega
        have o1 : -1125899906842624 ≤ b1 ∧ b1 ≤ 1125899906842624 := by omega
        have o2 : -1125899906842624 ≤ b2 ∧ b2 ≤ 1125899906842624 := by omega
        obtain ⟨o01, o02⟩ := o0
        obtain ⟨o11, o12⟩ := o1
        obtain ⟨o21, o22⟩ := o2
        go_wp2_with (fail)
        refine (size_any (b0 - a1_0) (L / 16777216 + 64) _ y0 k0 FAR).mono ?_
        rintro e w7 ⟨s0, rfl, hs0, rfl⟩
        go_wp2_with (fail)
        refine (size_any (b1 - a1_1) (L / 16777216 + 64) _ y1 k1 FAR).mono ?_
        rintro e w7 ⟨s1, rfl, hs1, rfl⟩
        go_wp2_with (fail)
        refine (size_any (b2 - a1_2) (L / 16777216 + 64) _ y2 k2 FAR).mono ?_
        rintro e w7 ⟨s2, rfl, hs2, rfl⟩
        go_wp2_with (fail)
        go_ret
        exact ⟨ret_bool (by first | rfl | (simp; done) | (simp; omega)), HB6.out⟩
    · clear HWh
      go_wp2_with (fail)
      refine (small_no a1_0 a1_1 a1_2 _ hin).mono ?_
      rintro e W3 ⟨rfl, hbs⟩
      have HB : Hid (Below w.heap.size w W3) := below_step HB.out hbs
      clear hbs hin
      go_wp2_with (fail)
      go_ret
      exact ⟨rfl, HB.out⟩

/-! ### The row's step, after the guide's template -/
set_option maxRecDepth 100000 in
theorem lifted (os : Os) (started : os.Started) (H : Type) (enc : TypeId × Value → H) :
    ReturnsInHanded {} Try.checked os 5 .any (Rows.vecWholeSpec.pre6 enc Try.prog Try.f5 Rows.vecWholeRow.domain false) (Rows.vecWholeSpec.post enc Try.prog Try.f5 false true false false) := by
  refine returnsInHanded_of_change (C := Try.checked) own started (by kernel_rfl) Try.func5
    (ChangeSpec.witness6 (enc := enc) (C := Try.checked) false ⟨#[], #[.agg #[.int .i64 0, .int .i64 0, .int .i64 0, .int .i64 0], .agg #[.int .i64 0, .int .i64 0, .int .i64 0]], []⟩ 8 (by kernel_rfl) (by kernel_rfl) (by kernel_rfl) (by kernel_rfl)) ?_
  intro W base args ds gs before hval0 hW hcnd _
  have hval : ∀ (j : Nat) t v, Try.f5.params[j]? = some t → args[j]? = some v → Value.okWide Try.prog W .any base t v := hval0
  have hW' := hW
  obtain ⟨p, q, hA0, hV, rfl, hfz, hnd⟩ := hW
  have hA : DataW.TrodAll enc Try.prog W 0 (fun _ => true) true Try.f5.params.toList args.toList ds p := hA0
  rw [Try.params5] at hA hval
  obtain ⟨v0, vs0, d0, ds0, p0, q0, hargs, rfl, rfl, h0, r0⟩ := trodAll_cons hA
  obtain ⟨v1, vs1, d1, ds1, p1, q1, rfl, rfl, rfl, h1, r1⟩ := trodAll_cons r0
  obtain ⟨rfl, rfl, rfl⟩ := trodAll_nil r1
  obtain rfl : args = #[v0, v1] := by cases args; simp_all
  obtain ⟨rfl, rfl⟩ := trodVars_none hV
  obtain ⟨a0_0, a0_1, a0_2, a0_3, rfl, rfl, rfl, w0_0, w0_1, w0_2, w0_3⟩ := open_quat (hval 0 42 v0 rfl rfl) h0
  obtain ⟨a1_0, a1_1, a1_2, rfl, rfl, rfl, w1_0, w1_1, w1_2⟩ := open_vec (hval 1 23 v1 rfl rfl) h1
  clear hA0 hval0
  simp only [List.append_nil] at hW'
  refine (walk a0_0 a0_1 a0_2 a0_3 a1_0 a1_1 a1_2 w0_0 w0_1 w0_2 w0_3 w1_0 w1_1 w1_2 W).mono fun e W' ⟨he, bel⟩ => ?_
  subst he
  exact ⟨_, rfl, _, _, _, [], [], [], hW', trodAll_mk1 (shut_bool Try.underlying4 _), (trodAll_cons_mk (shut_quat w0_0 w0_1 w0_2 w0_3) (trodAll_cons_mk (shut_vec w1_0 w1_1 w1_2) trodAll_mk0)), rfl, bel.frame _, fun h => by cases h⟩

theorem over : Rows.vecWholeRow.holds Try.pinned (OpenSpec.ofChange Rows.vecWholeSpec) :=
  OpenClaim.holds_of_wide 5 Try.f5 rfl rfl rfl rfl rfl rfl rfl ⟨rfl, rfl, rfl, rfl, rfl⟩ rfl rfl rfl rfl rfl (by kernel_rfl) Try.func5 (by kernel_rfl)
    (of_decide_eq_true (by kernel_rfl)) (by unfold Func.isWrapper; first | (rw [if_pos (by decide +kernel)]; kernel_rfl) | (rw [if_neg (by decide +kernel)]; exact ⟨rfl, rfl⟩))
    (fun os started H enc _ => lifted os started H enc)

end vecWhole

theorem vecWhole_holds : Rows.VecWholeSaid := vecWhole.over
#print axioms vecWhole_holds
end Go.Proofs.Ytchnfokahakgbaa
