/- Half turns around the three ways are exact: true for all vectors. -/
import Derived.Test.YtbjjpccaiciahabAwake2
import Derived.Test.YtbjjpccaiciahabReg3
import Derived.Test.YtbjjpccaiciahabOpenV
import Derived.Test.YtbjjpccaiciahabRows
import Derived.ProofKit
import Derived.OpenShut
namespace Go.Proofs.Ytbjjpccaiciahab
namespace vecHalf
open Go.ChangeShapes Go.WideShapes Go.ChangeAt Go.RowKit Fx
set_option linter.unusedVariables false

theorem own : ownKnob Try.prog.godebug = none := by kernel_rfl

theorem ok60 {x : Int} (h : -1152921504606846976 ≤ x ∧ x ≤ 1152921504606846976) : great x = false := (not_great x).2 (by omega)
theorem dg0p {x y z : Int} (hx : -1152921504606846976 ≤ x ∧ x ≤ 1152921504606846976) (hy : -1152921504606846976 ≤ y ∧ y ≤ 1152921504606846976) (hz : -1152921504606846976 ≤ z ∧ z ≤ 1152921504606846976) : dot [4294967296, 0, 0] [x, y, z] = some x := by
  have g0 : ([4294967296, 0, 0] : List Int).any great = false := by decide
  have g1 : [x, y, z].any great = false := by simp [ok60 hx, ok60 hy, ok60 hz]
  have e : prods [4294967296, 0, 0] [x, y, z] / 4294967296 = x := by simp only [prods]; omega
  have g2 : great x = false := (not_great _).2 (by omega)
  unfold dot
  rw [if_neg (by simp), if_neg (by simp), g0, g1, e]
  simp [told, g2]
theorem dg0n {x y z : Int} (hx : -1152921504606846976 ≤ x ∧ x ≤ 1152921504606846976) (hy : -1152921504606846976 ≤ y ∧ y ≤ 1152921504606846976) (hz : -1152921504606846976 ≤ z ∧ z ≤ 1152921504606846976) : dot [-4294967296, 0, 0] [x, y, z] = some (-x) := by
  have g0 : ([-4294967296, 0, 0] : List Int).any great = false := by decide
  have g1 : [x, y, z].any great = false := by simp [ok60 hx, ok60 hy, ok60 hz]
  have e : prods [-4294967296, 0, 0] [x, y, z] / 4294967296 = (-x) := by simp only [prods]; omega
  have g2 : great (-x) = false := (not_great _).2 (by omega)
  unfold dot
  rw [if_neg (by simp), if_neg (by simp), g0, g1, e]
  simp [told, g2]
theorem dg1p {x y z : Int} (hx : -1152921504606846976 ≤ x ∧ x ≤ 1152921504606846976) (hy : -1152921504606846976 ≤ y ∧ y ≤ 1152921504606846976) (hz : -1152921504606846976 ≤ z ∧ z ≤ 1152921504606846976) : dot [0, 4294967296, 0] [x, y, z] = some y := by
  have g0 : ([0, 4294967296, 0] : List Int).any great = false := by decide
  have g1 : [x, y, z].any great = false := by simp [ok60 hx, ok60 hy, ok60 hz]
  have e : prods [0, 4294967296, 0] [x, y, z] / 4294967296 = y := by simp only [prods]; omega
  have g2 : great y = false := (not_great _).2 (by omega)
  unfold dot
  rw [if_neg (by simp), if_neg (by simp), g0, g1, e]
  simp [told, g2]
theorem dg1n {x y z : Int} (hx : -1152921504606846976 ≤ x ∧ x ≤ 1152921504606846976) (hy : -1152921504606846976 ≤ y ∧ y ≤ 1152921504606846976) (hz : -1152921504606846976 ≤ z ∧ z ≤ 1152921504606846976) : dot [0, -4294967296, 0] [x, y, z] = some (-y) := by
  have g0 : ([0, -4294967296, 0] : List Int).any great = false := by decide
  have g1 : [x, y, z].any great = false := by simp [ok60 hx, ok60 hy, ok60 hz]
  have e : prods [0, -4294967296, 0] [x, y, z] / 4294967296 = (-y) := by simp only [prods]; omega
  have g2 : great (-y) = false := (not_great _).2 (by omega)
  unfold dot
  rw [if_neg (by simp), if_neg (by simp), g0, g1, e]
  simp [told, g2]
theorem dg2p {x y z : Int} (hx : -1152921504606846976 ≤ x ∧ x ≤ 1152921504606846976) (hy : -1152921504606846976 ≤ y ∧ y ≤ 1152921504606846976) (hz : -1152921504606846976 ≤ z ∧ z ≤ 1152921504606846976) : dot [0, 0, 4294967296] [x, y, z] = some z := by
  have g0 : ([0, 0, 4294967296] : List Int).any great = false := by decide
  have g1 : [x, y, z].any great = false := by simp [ok60 hx, ok60 hy, ok60 hz]
  have e : prods [0, 0, 4294967296] [x, y, z] / 4294967296 = z := by simp only [prods]; omega
  have g2 : great z = false := (not_great _).2 (by omega)
  unfold dot
  rw [if_neg (by simp), if_neg (by simp), g0, g1, e]
  simp [told, g2]
theorem dg2n {x y z : Int} (hx : -1152921504606846976 ≤ x ∧ x ≤ 1152921504606846976) (hy : -1152921504606846976 ≤ y ∧ y ≤ 1152921504606846976) (hz : -1152921504606846976 ≤ z ∧ z ≤ 1152921504606846976) : dot [0, 0, -4294967296] [x, y, z] = some (-z) := by
  have g0 : ([0, 0, -4294967296] : List Int).any great = false := by decide
  have g1 : [x, y, z].any great = false := by simp [ok60 hx, ok60 hy, ok60 hz]
  have e : prods [0, 0, -4294967296] [x, y, z] / 4294967296 = (-z) := by simp only [prods]; omega
  have g2 : great (-z) = false := (not_great _).2 (by omega)
  unfold dot
  rw [if_neg (by simp), if_neg (by simp), g0, g1, e]
  simp [told, g2]

set_option maxHeartbeats 1000000 in
theorem small_yes (x y z : Int) (W : World) (hx : -1152921504606846976 ≤ x ∧ x ≤ 1152921504606846976) (hy : -1152921504606846976 ≤ y ∧ y ≤ 1152921504606846976) (hz : -1152921504606846976 ≤ z ∧ z ≤ 1152921504606846976) :
    Calls Try.prog 12 #[.agg #[.int .i64 x, .int .i64 y, .int .i64 z], .int .i64 1152921504606846976] W fun e W' => e = .returned (.bool true) ∧ Below W.heap.size W W' := by
  go_enter Try.func12, Try.ntmps12
  go_wp2
  go_ret
  exact ⟨ret_bool (by first | rfl | (simp; done) | (simp; omega)), by go_grown⟩
set_option maxHeartbeats 2000000 in
theorem small_no (x y z : Int) (W : World) (h : ¬ ((-1152921504606846976 ≤ x ∧ x ≤ 1152921504606846976) ∧ (-1152921504606846976 ≤ y ∧ y ≤ 1152921504606846976) ∧ (-1152921504606846976 ≤ z ∧ z ≤ 1152921504606846976))) :
    Calls Try.prog 12 #[.agg #[.int .i64 x, .int .i64 y, .int .i64 z], .int .i64 1152921504606846976] W fun e W' => e = .returned (.bool false) ∧ Below W.heap.size W W' := by
  have h6 : x < -1152921504606846976 ∨ (-1152921504606846976 ≤ x ∧ 1152921504606846976 < x) ∨ (-1152921504606846976 ≤ x ∧ x ≤ 1152921504606846976 ∧ y < -1152921504606846976) ∨ (-1152921504606846976 ≤ x ∧ x ≤ 1152921504606846976 ∧ -1152921504606846976 ≤ y ∧ 1152921504606846976 < y) ∨ (-1152921504606846976 ≤ x ∧ x ≤ 1152921504606846976 ∧ -1152921504606846976 ≤ y ∧ y ≤ 1152921504606846976 ∧ z < -1152921504606846976) ∨ (-1152921504606846976 ≤ x ∧ x ≤ 1152921504606846976 ∧ -1152921504606846976 ≤ y ∧ y ≤ 1152921504606846976 ∧ -1152921504606846976 ≤ z ∧ 1152921504606846976 < z) := by omega
  clear h
  rcases h6 with h | ⟨h, h1⟩ | ⟨h, h1, h2⟩ | ⟨h, h1, h2, h3⟩ | ⟨h, h1, h2, h3, h4⟩ | ⟨h, h1, h2, h3, h4, h5⟩
  all_goals
    go_enter Try.func12, Try.ntmps12
    go_wp2
    go_ret
    exact ⟨ret_bool (by first | rfl | (simp; done) | (simp; omega)), by go_grown⟩

theorem leaves_of {w U : World} {p : Addr} (h : Below w.heap.size w U) : Leaves p w U :=
  ⟨h.size, fun q hq _ => ⟨h.cell hq, h.frozen hq⟩, fun B w' hb _ h2 => hb.trans (h.mono h2)⟩

def half0_bad (pa pw pl pq pm pb : Nat) (a0_0 a0_1 a0_2 : Int) (w8 U : World) : Bool := false || ([(10, false), (18, false)] : List (Nat × Bool)).any (·.2)

def half0_sh (pa pw pl pq pm pb : Nat) (a0_0 a0_1 a0_2 : Int) (w8 U : World) : Nat → Shape
  | 0 => .is (.agg #[.int .i64 (a0_0), .int .i64 ((-a0_1)), .int .i64 ((-a0_2))])
  | 1 => .is (.slice (some ⟨pq, 0, none⟩) 3 3)
  | 2 => .is (.int .i64 (0))
  | 3 => .is (.pointer (some ⟨pq, 0, none⟩))
  | 4 => .is (.agg #[.int .i64 (a0_0), .int .i64 ((-a0_1)), .int .i64 ((-a0_2))])
  | 5 => .is (.bool false)
  | 6 => .is (.bool false)
  | 7 => .is (.pointer (some ⟨pw, 0, none⟩))
  | 8 => .is (.agg #[.int .i64 (4294967296), .int .i64 (0), .int .i64 (0), .int .i64 (0), .int .i64 (-4294967296), .int .i64 (0), .int .i64 (0), .int .i64 (0), .int .i64 (-4294967296)])
  | 9 => .is (.agg #[.int .i64 (a0_0), .int .i64 ((-a0_1)), .int .i64 ((-a0_2))])
  | 10 => .is (.agg #[.int .i64 (a0_0), .int .i64 (a0_1), .int .i64 (a0_2)])
  | 11 => .is (.agg #[.int .i64 (a0_0), .int .i64 (a0_1), .int .i64 (a0_2)])
  | 12 => .is (.bool false)
  | 13 => .is (.bool false)
  | 14 => .is (.bool false)
  | 15 => .is (.pointer (some ⟨pw, 0, none⟩))
  | 16 => .is (.agg #[.int .i64 (4294967296), .int .i64 (0), .int .i64 (0), .int .i64 (0), .int .i64 (-4294967296), .int .i64 (0), .int .i64 (0), .int .i64 (0), .int .i64 (-4294967296)])
  | 17 => .is (.agg #[.int .i64 (a0_0), .int .i64 ((-a0_1)), .int .i64 ((-a0_2))])
  | 18 => .is (.agg #[.int .i64 (a0_0), .int .i64 (a0_1), .int .i64 (a0_2)])
  | 19 => .is (.agg #[.int .i64 (a0_0), .int .i64 (a0_1), .int .i64 (a0_2)])
  | 20 => .is (.bool false)
  | 21 => .is (.bool false)
  | _ => .ptr

def half0_plan (pa pw pl pq pm pb : Nat) (a0_0 a0_1 a0_2 : Int) (w8 U : World) : Plan where
  W := w8
  N := U.heap.size
  p := ⟨pw, 0, none⟩
  fl := ⟨pw, 0, none⟩
  g0 := false
  bad := half0_bad pa pw pl pq pm pb a0_0 a0_1 a0_2 w8 U
  f := false
  calls := [(10, false), (18, false)]
  tl := 100000
  st := 100001
  r := 0
  res := []
  fixed := [(⟨pa, 0, none⟩, .int .i64 (a0_0)),
    (⟨pa, 1, none⟩, .int .i64 (a0_1)),
    (⟨pa, 2, none⟩, .int .i64 (a0_2)),
    (⟨pl, 0, none⟩, .int .i64 (0)),
    (⟨pl, 1, none⟩, .int .i64 (4294967296)),
    (⟨pl, 2, none⟩, .int .i64 (0)),
    (⟨pl, 3, none⟩, .int .i64 (0)),
    (⟨pl, 4, none⟩, .int .i64 (0)),
    (⟨pl, 5, none⟩, .int .i64 (0)),
    (⟨pl, 6, none⟩, .int .i64 (4294967296)),
    (⟨pl, 7, none⟩, .int .i64 (0)),
    (⟨pl, 8, none⟩, .int .i64 (0)),
    (⟨pl, 9, none⟩, .int .i64 (0)),
    (⟨pl, 10, none⟩, .int .i64 (0)),
    (⟨pl, 11, none⟩, .int .i64 (4294967296)),
    (⟨pq, 0, none⟩, .int .i64 (a0_0)),
    (⟨pq, 1, none⟩, .int .i64 ((-a0_1))),
    (⟨pq, 2, none⟩, .int .i64 ((-a0_2))),
    (⟨pq, 3, none⟩, .int .i64 ((-a0_0))),
    (⟨pq, 4, none⟩, .int .i64 (a0_1)),
    (⟨pq, 5, none⟩, .int .i64 ((-a0_2))),
    (⟨pq, 6, none⟩, .int .i64 ((-a0_0))),
    (⟨pq, 7, none⟩, .int .i64 ((-a0_1))),
    (⟨pq, 8, none⟩, .int .i64 (a0_2)),
    (⟨pm, 0, none⟩, .int .i64 (4294967296)),
    (⟨pm, 1, none⟩, .int .i64 (0)),
    (⟨pm, 2, none⟩, .int .i64 (0)),
    (⟨pm, 3, none⟩, .int .i64 (0)),
    (⟨pm, 4, none⟩, .int .i64 (-4294967296)),
    (⟨pm, 5, none⟩, .int .i64 (0)),
    (⟨pm, 6, none⟩, .int .i64 (0)),
    (⟨pm, 7, none⟩, .int .i64 (0)),
    (⟨pm, 8, none⟩, .int .i64 (-4294967296)),
    (⟨pb, 0, none⟩, .int .i64 (a0_0)),
    (⟨pb, 1, none⟩, .int .i64 ((-a0_1))),
    (⟨pb, 2, none⟩, .int .i64 ((-a0_2)))]
  made := []

theorem half0_cn (pa pw pl pq pm pb : Nat) (a0_0 a0_1 a0_2 : Int) (w8 U : World) : ((half0_plan pa pw pl pq pm pb a0_0 a0_1 a0_2 w8 U).calls.map (·.1)).Nodup := of_decide_eq_true rfl
theorem half0_mn (pa pw pl pq pm pb : Nat) (a0_0 a0_1 a0_2 : Int) (w8 U : World) : ((half0_plan pa pw pl pq pm pb a0_0 a0_1 a0_2 w8 U).made.map (·.i)).Nodup := of_decide_eq_true rfl
theorem half0_bads (pa pw pl pq pm pb : Nat) (a0_0 a0_1 a0_2 : Int) (w8 U : World) : ((half0_plan pa pw pl pq pm pb a0_0 a0_1 a0_2 w8 U).bad = true → (half0_plan pa pw pl pq pm pb a0_0 a0_1 a0_2 w8 U).g0 = true ∨ ∃ c ∈ (half0_plan pa pw pl pq pm pb a0_0 a0_1 a0_2 w8 U).calls, c.2 = true) ∧ ∀ c ∈ (half0_plan pa pw pl pq pm pb a0_0 a0_1 a0_2 w8 U).calls, c.2 = true → (half0_plan pa pw pl pq pm pb a0_0 a0_1 a0_2 w8 U).bad = true :=
  bad_any_of _ rfl


def half1_bad (pa pw pl pq pm pb : Nat) (a0_0 a0_1 a0_2 : Int) (w8 U : World) : Bool := false || ([(10, false), (18, false)] : List (Nat × Bool)).any (·.2)

def half1_sh (pa pw pl pq pm pb : Nat) (a0_0 a0_1 a0_2 : Int) (w8 U : World) : Nat → Shape
  | 0 => .is (.agg #[.int .i64 ((-a0_0)), .int .i64 (a0_1), .int .i64 ((-a0_2))])
  | 1 => .is (.slice (some ⟨pq, 0, none⟩) 3 3)
  | 2 => .is (.int .i64 (1))
  | 3 => .is (.pointer (some ⟨pq, 3, none⟩))
  | 4 => .is (.agg #[.int .i64 ((-a0_0)), .int .i64 (a0_1), .int .i64 ((-a0_2))])
  | 5 => .is (.bool false)
  | 6 => .is (.bool false)
  | 7 => .is (.pointer (some ⟨pw, 0, none⟩))
  | 8 => .is (.agg #[.int .i64 (-4294967296), .int .i64 (0), .int .i64 (0), .int .i64 (0), .int .i64 (4294967296), .int .i64 (0), .int .i64 (0), .int .i64 (0), .int .i64 (-4294967296)])
  | 9 => .is (.agg #[.int .i64 ((-a0_0)), .int .i64 (a0_1), .int .i64 ((-a0_2))])
  | 10 => .is (.agg #[.int .i64 (a0_0), .int .i64 (a0_1), .int .i64 (a0_2)])
  | 11 => .is (.agg #[.int .i64 (a0_0), .int .i64 (a0_1), .int .i64 (a0_2)])
  | 12 => .is (.bool false)
  | 13 => .is (.bool false)
  | 14 => .is (.bool false)
  | 15 => .is (.pointer (some ⟨pw, 0, none⟩))
  | 16 => .is (.agg #[.int .i64 (-4294967296), .int .i64 (0), .int .i64 (0), .int .i64 (0), .int .i64 (4294967296), .int .i64 (0), .int .i64 (0), .int .i64 (0), .int .i64 (-4294967296)])
  | 17 => .is (.agg #[.int .i64 ((-a0_0)), .int .i64 (a0_1), .int .i64 ((-a0_2))])
  | 18 => .is (.agg #[.int .i64 (a0_0), .int .i64 (a0_1), .int .i64 (a0_2)])
  | 19 => .is (.agg #[.int .i64 (a0_0), .int .i64 (a0_1), .int .i64 (a0_2)])
  | 20 => .is (.bool false)
  | 21 => .is (.bool false)
  | _ => .ptr

def half1_plan (pa pw pl pq pm pb : Nat) (a0_0 a0_1 a0_2 : Int) (w8 U : World) : Plan where
  W := w8
  N := U.heap.size
  p := ⟨pw, 0, none⟩
  fl := ⟨pw, 0, none⟩
  g0 := false
  bad := half1_bad pa pw pl pq pm pb a0_0 a0_1 a0_2 w8 U
  f := false
  calls := [(10, false), (18, false)]
  tl := 100000
  st := 100001
  r := 0
  res := []
  fixed := [(⟨pa, 0, none⟩, .int .i64 (a0_0)),
    (⟨pa, 1, none⟩, .int .i64 (a0_1)),
    (⟨pa, 2, none⟩, .int .i64 (a0_2)),
    (⟨pl, 0, none⟩, .int .i64 (0)),
    (⟨pl, 1, none⟩, .int .i64 (4294967296)),
    (⟨pl, 2, none⟩, .int .i64 (0)),
    (⟨pl, 3, none⟩, .int .i64 (0)),
    (⟨pl, 4, none⟩, .int .i64 (0)),
    (⟨pl, 5, none⟩, .int .i64 (0)),
    (⟨pl, 6, none⟩, .int .i64 (4294967296)),
    (⟨pl, 7, none⟩, .int .i64 (0)),
    (⟨pl, 8, none⟩, .int .i64 (0)),
    (⟨pl, 9, none⟩, .int .i64 (0)),
    (⟨pl, 10, none⟩, .int .i64 (0)),
    (⟨pl, 11, none⟩, .int .i64 (4294967296)),
    (⟨pq, 0, none⟩, .int .i64 (a0_0)),
    (⟨pq, 1, none⟩, .int .i64 ((-a0_1))),
    (⟨pq, 2, none⟩, .int .i64 ((-a0_2))),
    (⟨pq, 3, none⟩, .int .i64 ((-a0_0))),
    (⟨pq, 4, none⟩, .int .i64 (a0_1)),
    (⟨pq, 5, none⟩, .int .i64 ((-a0_2))),
    (⟨pq, 6, none⟩, .int .i64 ((-a0_0))),
    (⟨pq, 7, none⟩, .int .i64 ((-a0_1))),
    (⟨pq, 8, none⟩, .int .i64 (a0_2)),
    (⟨pm, 0, none⟩, .int .i64 (-4294967296)),
    (⟨pm, 1, none⟩, .int .i64 (0)),
    (⟨pm, 2, none⟩, .int .i64 (0)),
    (⟨pm, 3, none⟩, .int .i64 (0)),
    (⟨pm, 4, none⟩, .int .i64 (4294967296)),
    (⟨pm, 5, none⟩, .int .i64 (0)),
    (⟨pm, 6, none⟩, .int .i64 (0)),
    (⟨pm, 7, none⟩, .int .i64 (0)),
    (⟨pm, 8, none⟩, .int .i64 (-4294967296)),
    (⟨pb, 0, none⟩, .int .i64 ((-a0_0))),
    (⟨pb, 1, none⟩, .int .i64 (a0_1)),
    (⟨pb, 2, none⟩, .int .i64 ((-a0_2)))]
  made := []

theorem half1_cn (pa pw pl pq pm pb : Nat) (a0_0 a0_1 a0_2 : Int) (w8 U : World) : ((half1_plan pa pw pl pq pm pb a0_0 a0_1 a0_2 w8 U).calls.map (·.1)).Nodup := of_decide_eq_true rfl
theorem half1_mn (pa pw pl pq pm pb : Nat) (a0_0 a0_1 a0_2 : Int) (w8 U : World) : ((half1_plan pa pw pl pq pm pb a0_0 a0_1 a0_2 w8 U).made.map (·.i)).Nodup := of_decide_eq_true rfl
theorem half1_bads (pa pw pl pq pm pb : Nat) (a0_0 a0_1 a0_2 : Int) (w8 U : World) : ((half1_plan pa pw pl pq pm pb a0_0 a0_1 a0_2 w8 U).bad = true → (half1_plan pa pw pl pq pm pb a0_0 a0_1 a0_2 w8 U).g0 = true ∨ ∃ c ∈ (half1_plan pa pw pl pq pm pb a0_0 a0_1 a0_2 w8 U).calls, c.2 = true) ∧ ∀ c ∈ (half1_plan pa pw pl pq pm pb a0_0 a0_1 a0_2 w8 U).calls, c.2 = true → (half1_plan pa pw pl pq pm pb a0_0 a0_1 a0_2 w8 U).bad = true :=
  bad_any_of _ rfl


def half2_bad (pa pw pl pq pm pb : Nat) (a0_0 a0_1 a0_2 : Int) (w8 U : World) : Bool := false || ([(10, false), (18, false)] : List (Nat × Bool)).any (·.2)

def half2_sh (pa pw pl pq pm pb : Nat) (a0_0 a0_1 a0_2 : Int) (w8 U : World) : Nat → Shape
  | 0 => .is (.agg #[.int .i64 ((-a0_0)), .int .i64 ((-a0_1)), .int .i64 (a0_2)])
  | 1 => .is (.slice (some ⟨pq, 0, none⟩) 3 3)
  | 2 => .is (.int .i64 (2))
  | 3 => .is (.pointer (some ⟨pq, 6, none⟩))
  | 4 => .is (.agg #[.int .i64 ((-a0_0)), .int .i64 ((-a0_1)), .int .i64 (a0_2)])
  | 5 => .is (.bool false)
  | 6 => .is (.bool false)
  | 7 => .is (.pointer (some ⟨pw, 0, none⟩))
  | 8 => .is (.agg #[.int .i64 (-4294967296), .int .i64 (0), .int .i64 (0), .int .i64 (0), .int .i64 (-4294967296), .int .i64 (0), .int .i64 (0), .int .i64 (0), .int .i64 (4294967296)])
  | 9 => .is (.agg #[.int .i64 ((-a0_0)), .int .i64 ((-a0_1)), .int .i64 (a0_2)])
  | 10 => .is (.agg #[.int .i64 (a0_0), .int .i64 (a0_1), .int .i64 (a0_2)])
  | 11 => .is (.agg #[.int .i64 (a0_0), .int .i64 (a0_1), .int .i64 (a0_2)])
  | 12 => .is (.bool false)
  | 13 => .is (.bool false)
  | 14 => .is (.bool false)
  | 15 => .is (.pointer (some ⟨pw, 0, none⟩))
  | 16 => .is (.agg #[.int .i64 (-4294967296), .int .i64 (0), .int .i64 (0), .int .i64 (0), .int .i64 (-4294967296), .int .i64 (0), .int .i64 (0), .int .i64 (0), .int .i64 (4294967296)])
  | 17 => .is (.agg #[.int .i64 ((-a0_0)), .int .i64 ((-a0_1)), .int .i64 (a0_2)])
  | 18 => .is (.agg #[.int .i64 (a0_0), .int .i64 (a0_1), .int .i64 (a0_2)])
  | 19 => .is (.agg #[.int .i64 (a0_0), .int .i64 (a0_1), .int .i64 (a0_2)])
  | 20 => .is (.bool false)
  | 21 => .is (.bool false)
  | _ => .ptr

def half2_plan (pa pw pl pq pm pb : Nat) (a0_0 a0_1 a0_2 : Int) (w8 U : World) : Plan where
  W := w8
  N := U.heap.size
  p := ⟨pw, 0, none⟩
  fl := ⟨pw, 0, none⟩
  g0 := false
  bad := half2_bad pa pw pl pq pm pb a0_0 a0_1 a0_2 w8 U
  f := false
  calls := [(10, false), (18, false)]
  tl := 100000
  st := 100001
  r := 0
  res := []
  fixed := [(⟨pa, 0, none⟩, .int .i64 (a0_0)),
    (⟨pa, 1, none⟩, .int .i64 (a0_1)),
    (⟨pa, 2, none⟩, .int .i64 (a0_2)),
    (⟨pl, 0, none⟩, .int .i64 (0)),
    (⟨pl, 1, none⟩, .int .i64 (4294967296)),
    (⟨pl, 2, none⟩, .int .i64 (0)),
    (⟨pl, 3, none⟩, .int .i64 (0)),
    (⟨pl, 4, none⟩, .int .i64 (0)),
    (⟨pl, 5, none⟩, .int .i64 (0)),
    (⟨pl, 6, none⟩, .int .i64 (4294967296)),
    (⟨pl, 7, none⟩, .int .i64 (0)),
    (⟨pl, 8, none⟩, .int .i64 (0)),
    (⟨pl, 9, none⟩, .int .i64 (0)),
    (⟨pl, 10, none⟩, .int .i64 (0)),
    (⟨pl, 11, none⟩, .int .i64 (4294967296)),
    (⟨pq, 0, none⟩, .int .i64 (a0_0)),
    (⟨pq, 1, none⟩, .int .i64 ((-a0_1))),
    (⟨pq, 2, none⟩, .int .i64 ((-a0_2))),
    (⟨pq, 3, none⟩, .int .i64 ((-a0_0))),
    (⟨pq, 4, none⟩, .int .i64 (a0_1)),
    (⟨pq, 5, none⟩, .int .i64 ((-a0_2))),
    (⟨pq, 6, none⟩, .int .i64 ((-a0_0))),
    (⟨pq, 7, none⟩, .int .i64 ((-a0_1))),
    (⟨pq, 8, none⟩, .int .i64 (a0_2)),
    (⟨pm, 0, none⟩, .int .i64 (-4294967296)),
    (⟨pm, 1, none⟩, .int .i64 (0)),
    (⟨pm, 2, none⟩, .int .i64 (0)),
    (⟨pm, 3, none⟩, .int .i64 (0)),
    (⟨pm, 4, none⟩, .int .i64 (-4294967296)),
    (⟨pm, 5, none⟩, .int .i64 (0)),
    (⟨pm, 6, none⟩, .int .i64 (0)),
    (⟨pm, 7, none⟩, .int .i64 (0)),
    (⟨pm, 8, none⟩, .int .i64 (4294967296)),
    (⟨pb, 0, none⟩, .int .i64 ((-a0_0))),
    (⟨pb, 1, none⟩, .int .i64 ((-a0_1))),
    (⟨pb, 2, none⟩, .int .i64 (a0_2))]
  made := []

theorem half2_cn (pa pw pl pq pm pb : Nat) (a0_0 a0_1 a0_2 : Int) (w8 U : World) : ((half2_plan pa pw pl pq pm pb a0_0 a0_1 a0_2 w8 U).calls.map (·.1)).Nodup := of_decide_eq_true rfl
theorem half2_mn (pa pw pl pq pm pb : Nat) (a0_0 a0_1 a0_2 : Int) (w8 U : World) : ((half2_plan pa pw pl pq pm pb a0_0 a0_1 a0_2 w8 U).made.map (·.i)).Nodup := of_decide_eq_true rfl
theorem half2_bads (pa pw pl pq pm pb : Nat) (a0_0 a0_1 a0_2 : Int) (w8 U : World) : ((half2_plan pa pw pl pq pm pb a0_0 a0_1 a0_2 w8 U).bad = true → (half2_plan pa pw pl pq pm pb a0_0 a0_1 a0_2 w8 U).g0 = true ∨ ∃ c ∈ (half2_plan pa pw pl pq pm pb a0_0 a0_1 a0_2 w8 U).calls, c.2 = true) ∧ ∀ c ∈ (half2_plan pa pw pl pq pm pb a0_0 a0_1 a0_2 w8 U).calls, c.2 = true → (half2_plan pa pw pl pq pm pb a0_0 a0_1 a0_2 w8 U).bad = true :=
  bad_any_of _ rfl


set_option maxRecDepth 100000 in
set_option maxHeartbeats 16000000 in
theorem walk (a0_0 a0_1 a0_2 : Int) (w0_0 : (Lit.int .i64 a0_0).wf = true) (w0_1 : (Lit.int .i64 a0_1).wf = true) (w0_2 : (Lit.int .i64 a0_2).wf = true) (w : World) :
    Calls Try.prog 6 #[.agg #[.int .i64 a0_0, .int .i64 a0_1, .int .i64 a0_2]] w fun e w' => e = .returned (.bool true) ∧ Below w.heap.size w w' := by
  have b0_0 := bounds_i64 w0_0
  have b0_1 := bounds_i64 w0_1
  have b0_2 := bounds_i64 w0_2
  clear w0_0 w0_1 w0_2
  have AW : Hid _ := fun W => awake2_any W
  go_enter Try.func6, Try.ntmps6
  go_wp2_with (fail)
  refine Calls.mono (AW.out _) ?_
  rintro e V ⟨rfl, hb0⟩
  clear AW
  have xpa_0 : V.cell? ⟨w.heap.size, 0, none⟩ = some (.int .i64 a0_0) := cell_after hb0 (by simp [go_sem])
  have xpa_1 : V.cell? ⟨w.heap.size, 1, none⟩ = some (.int .i64 a0_1) := cell_after hb0 (by simp [go_sem])
  have xpa_2 : V.cell? ⟨w.heap.size, 2, none⟩ = some (.int .i64 a0_2) := cell_after hb0 (by simp [go_sem])
  have hsV := hb0.size
  simp only [World.size_alloc] at hsV
  have HB : Hid (Below w.heap.size w V) := below_step (new_after w _) hb0
  obtain ⟨pa, hpa⟩ : ∃ p, p = w.heap.size := ⟨_, rfl⟩
  clear hb0
  rw [← hpa]
  rw [← hpa] at xpa_0 xpa_1 xpa_2
  have hsw : w.heap.size ≤ V.heap.size := HB.out.size
  have qpa : pa < V.heap.size := by omega
  clear hpa hsV
  by_cases hin : (-1152921504606846976 ≤ a0_0 ∧ a0_0 ≤ 1152921504606846976) ∧ (-1152921504606846976 ≤ a0_1 ∧ a0_1 ≤ 1152921504606846976) ∧ (-1152921504606846976 ≤ a0_2 ∧ a0_2 ≤ 1152921504606846976)
  · obtain ⟨hX, hY, hZ⟩ := hin
    go_wp2_with (fail)
    refine (small_yes a0_0 a0_1 a0_2 _ hX hY hZ).mono ?_
    rintro e Vs ⟨rfl, hbs⟩
    have HB : Hid (Below w.heap.size w Vs) := below_step HB.out hbs
    have xpa_0 := cell_after hbs xpa_0
    have xpa_1 := cell_after hbs xpa_1
    have xpa_2 := cell_after hbs xpa_2
    have qs := hbs.size
    have qpv : pa < Vs.heap.size := by omega
    clear hbs
    go_wp2_with (fail)
    have hw' : w.heap.size ≤ Vs.heap.size := HB.out.size
    have HB0 : Hid (Below w.heap.size w (((Vs.alloc (Obj.cells #[.bool false] 27)).alloc (.cells #[.int .i64 0, .int .i64 4294967296, .int .i64 0, .int .i64 0, .int .i64 0, .int .i64 0, .int .i64 4294967296, .int .i64 0, .int .i64 0, .int .i64 0, .int .i64 0, .int .i64 4294967296] 32)).alloc (.cells #[.int .i64 a0_0, .int .i64 (-a0_1), .int .i64 (-a0_2), .int .i64 (-a0_0), .int .i64 a0_1, .int .i64 (-a0_2), .int .i64 (-a0_0), .int .i64 (-a0_1), .int .i64 a0_2] 23))) := ((HB.out.alloc hw' _).alloc (by simp; omega) _).alloc (by simp; omega) _
    have c : (((Vs.alloc (Obj.cells #[.bool false] 27)).alloc (.cells #[.int .i64 0, .int .i64 4294967296, .int .i64 0, .int .i64 0, .int .i64 0, .int .i64 0, .int .i64 4294967296, .int .i64 0, .int .i64 0, .int .i64 0, .int .i64 0, .int .i64 4294967296] 32)).alloc (.cells #[.int .i64 a0_0, .int .i64 (-a0_1), .int .i64 (-a0_2), .int .i64 (-a0_0), .int .i64 a0_1, .int .i64 (-a0_2), .int .i64 (-a0_0), .int .i64 (-a0_1), .int .i64 a0_2] 23)).cell? ⟨Vs.heap.size, 0, none⟩ = some (.bool false) := by simp [go_sem]
    have f : (((Vs.alloc (Obj.cells #[.bool false] 27)).alloc (.cells #[.int .i64 0, .int .i64 4294967296, .int .i64 0, .int .i64 0, .int .i64 0, .int .i64 0, .int .i64 4294967296, .int .i64 0, .int .i64 0, .int .i64 0, .int .i64 0, .int .i64 4294967296] 32)).alloc (.cells #[.int .i64 a0_0, .int .i64 (-a0_1), .int .i64 (-a0_2), .int .i64 (-a0_0), .int .i64 a0_1, .int .i64 (-a0_2), .int .i64 (-a0_0), .int .i64 (-a0_1), .int .i64 a0_2] 23)).frozen? ⟨Vs.heap.size, 0, none⟩ = false := by simp [go_sem]
    have xa0 : (((Vs.alloc (Obj.cells #[.bool false] 27)).alloc (.cells #[.int .i64 0, .int .i64 4294967296, .int .i64 0, .int .i64 0, .int .i64 0, .int .i64 0, .int .i64 4294967296, .int .i64 0, .int .i64 0, .int .i64 0, .int .i64 0, .int .i64 4294967296] 32)).alloc (.cells #[.int .i64 a0_0, .int .i64 (-a0_1), .int .i64 (-a0_2), .int .i64 (-a0_0), .int .i64 a0_1, .int .i64 (-a0_2), .int .i64 (-a0_0), .int .i64 (-a0_1), .int .i64 a0_2] 23)).cell? ⟨pa, 0, none⟩ = some (.int .i64 a0_0) := cell_after ((new_after Vs _).trans (((Below.refl _ _).alloc (Nat.le_refl _) _).alloc (by simp) _ |>.mono (by simp))) xpa_0
    have xa1 : (((Vs.alloc (Obj.cells #[.bool false] 27)).alloc (.cells #[.int .i64 0, .int .i64 4294967296, .int .i64 0, .int .i64 0, .int .i64 0, .int .i64 0, .int .i64 4294967296, .int .i64 0, .int .i64 0, .int .i64 0, .int .i64 0, .int .i64 4294967296] 32)).alloc (.cells #[.int .i64 a0_0, .int .i64 (-a0_1), .int .i64 (-a0_2), .int .i64 (-a0_0), .int .i64 a0_1, .int .i64 (-a0_2), .int .i64 (-a0_0), .int .i64 (-a0_1), .int .i64 a0_2] 23)).cell? ⟨pa, 1, none⟩ = some (.int .i64 a0_1) := cell_after ((new_after Vs _).trans (((Below.refl _ _).alloc (Nat.le_refl _) _).alloc (by simp) _ |>.mono (by simp))) xpa_1
    have xa2 : (((Vs.alloc (Obj.cells #[.bool false] 27)).alloc (.cells #[.int .i64 0, .int .i64 4294967296, .int .i64 0, .int .i64 0, .int .i64 0, .int .i64 0, .int .i64 4294967296, .int .i64 0, .int .i64 0, .int .i64 0, .int .i64 0, .int .i64 4294967296] 32)).alloc (.cells #[.int .i64 a0_0, .int .i64 (-a0_1), .int .i64 (-a0_2), .int .i64 (-a0_0), .int .i64 a0_1, .int .i64 (-a0_2), .int .i64 (-a0_0), .int .i64 (-a0_1), .int .i64 a0_2] 23)).cell? ⟨pa, 2, none⟩ = some (.int .i64 a0_2) := cell_after ((new_after Vs _).trans (((Below.refl _ _).alloc (Nat.le_refl _) _).alloc (by simp) _ |>.mono (by simp))) xpa_2
    have xl0 : (((Vs.alloc (Obj.cells #[.bool false] 27)).alloc (.cells #[.int .i64 0, .int .i64 4294967296, .int .i64 0, .int .i64 0, .int .i64 0, .int .i64 0, .int .i64 4294967296, .int .i64 0, .int .i64 0, .int .i64 0, .int .i64 0, .int .i64 4294967296] 32)).alloc (.cells #[.int .i64 a0_0, .int .i64 (-a0_1), .int .i64 (-a0_2), .int .i64 (-a0_0), .int .i64 a0_1, .int .i64 (-a0_2), .int .i64 (-a0_0), .int .i64 (-a0_1), .int .i64 a0_2] 23)).cell? ⟨Vs.heap.size + 1, 0, none⟩ = some (.int .i64 0) := by simp [go_sem]
    have xl1 : (((Vs.alloc (Obj.cells #[.bool false] 27)).alloc (.cells #[.int .i64 0, .int .i64 4294967296, .int .i64 0, .int .i64 0, .int .i64 0, .int .i64 0, .int .i64 4294967296, .int .i64 0, .int .i64 0, .int .i64 0, .int .i64 0, .int .i64 4294967296] 32)).alloc (.cells #[.int .i64 a0_0, .int .i64 (-a0_1), .int .i64 (-a0_2), .int .i64 (-a0_0), .int .i64 a0_1, .int .i64 (-a0_2), .int .i64 (-a0_0), .int .i64 (-a0_1), .int .i64 a0_2] 23)).cell? ⟨Vs.heap.size + 1, 1, none⟩ = some (.int .i64 4294967296) := by simp [go_sem]
    have xl2 : (((Vs.alloc (Obj.cells #[.bool false] 27)).alloc (.cells #[.int .i64 0, .int .i64 4294967296, .int .i64 0, .int .i64 0, .int .i64 0, .int .i64 0, .int .i64 4294967296, .int .i64 0, .int .i64 0, .int .i64 0, .int .i64 0, .int .i64 4294967296] 32)).alloc (.cells #[.int .i64 a0_0, .int .i64 (-a0_1), .int .i64 (-a0_2), .int .i64 (-a0_0), .int .i64 a0_1, .int .i64 (-a0_2), .int .i64 (-a0_0), .int .i64 (-a0_1), .int .i64 a0_2] 23)).cell? ⟨Vs.heap.size + 1, 2, none⟩ = some (.int .i64 0) := by simp [go_sem]
    have xl3 : (((Vs.alloc (Obj.cells #[.bool false] 27)).alloc (.cells #[.int .i64 0, .int .i64 4294967296, .int .i64 0, .int .i64 0, .int .i64 0, .int .i64 0, .int .i64 4294967296, .int .i64 0, .int .i64 0, .int .i64 0, .int .i64 0, .int .i64 4294967296] 32)).alloc (.cells #[.int .i64 a0_0, .int .i64 (-a0_1), .int .i64 (-a0_2), .int .i64 (-a0_0), .int .i64 a0_1, .int .i64 (-a0_2), .int .i64 (-a0_0), .int .i64 (-a0_1), .int .i64 a0_2] 23)).cell? ⟨Vs.heap.size + 1, 3, none⟩ = some (.int .i64 0) := by simp [go_sem]
    have xl4 : (((Vs.alloc (Obj.cells #[.bool false] 27)).alloc (.cells #[.int .i64 0, .int .i64 4294967296, .int .i64 0, .int .i64 0, .int .i64 0, .int .i64 0, .int .i64 4294967296, .int .i64 0, .int .i64 0, .int .i64 0, .int .i64 0, .int .i64 4294967296] 32)).alloc (.cells #[.int .i64 a0_0, .int .i64 (-a0_1), .int .i64 (-a0_2), .int .i64 (-a0_0), .int .i64 a0_1, .int .i64 (-a0_2), .int .i64 (-a0_0), .int .i64 (-a0_1), .int .i64 a0_2] 23)).cell? ⟨Vs.heap.size + 1, 4, none⟩ = some (.int .i64 0) := by simp [go_sem]
    have xl5 : (((Vs.alloc (Obj.cells #[.bool false] 27)).alloc (.cells #[.int .i64 0, .int .i64 4294967296, .int .i64 0, .int .i64 0, .int .i64 0, .int .i64 0, .int .i64 4294967296, .int .i64 0, .int .i64 0, .int .i64 0, .int .i64 0, .int .i64 4294967296] 32)).alloc (.cells #[.int .i64 a0_0, .int .i64 (-a0_1), .int .i64 (-a0_2), .int .i64 (-a0_0), .int .i64 a0_1, .int .i64 (-a0_2), .int .i64 (-a0_0), .int .i64 (-a0_1), .int .i64 a0_2] 23)).cell? ⟨Vs.heap.size + 1, 5, none⟩ = some (.int .i64 0) := by simp [go_sem]
    have xl6 : (((Vs.alloc (Obj.cells #[.bool false] 27)).alloc (.cells #[.int .i64 0, .int .i64 4294967296, .int .i64 0, .int .i64 0, .int .i64 0, .int .i64 0, .int .i64 4294967296, .int .i64 0, .int .i64 0, .int .i64 0, .int .i64 0, .int .i64 4294967296] 32)).alloc (.cells #[.int .i64 a0_0, .int .i64 (-a0_1), .int .i64 (-a0_2), .int .i64 (-a0_0), .int .i64 a0_1, .int .i64 (-a0_2), .int .i64 (-a0_0), .int .i64 (-a0_1), .int .i64 a0_2] 23)).cell? ⟨Vs.heap.size + 1, 6, none⟩ = some (.int .i64 4294967296) := by simp [go_sem]
    have xl7 : (((Vs.alloc (Obj.cells #[.bool false] 27)).alloc (.cells #[.int .i64 0, .int .i64 4294967296, .int .i64 0, .int .i64 0, .int .i64 0, .int .i64 0, .int .i64 4294967296, .int .i64 0, .int .i64 0, .int .i64 0, .int .i64 0, .int .i64 4294967296] 32)).alloc (.cells #[.int .i64 a0_0, .int .i64 (-a0_1), .int .i64 (-a0_2), .int .i64 (-a0_0), .int .i64 a0_1, .int .i64 (-a0_2), .int .i64 (-a0_0), .int .i64 (-a0_1), .int .i64 a0_2] 23)).cell? ⟨Vs.heap.size + 1, 7, none⟩ = some (.int .i64 0) := by simp [go_sem]
    have xl8 : (((Vs.alloc (Obj.cells #[.bool false] 27)).alloc (.cells #[.int .i64 0, .int .i64 4294967296, .int .i64 0, .int .i64 0, .int .i64 0, .int .i64 0, .int .i64 4294967296, .int .i64 0, .int .i64 0, .int .i64 0, .int .i64 0, .int .i64 4294967296] 32)).alloc (.cells #[.int .i64 a0_0, .int .i64 (-a0_1), .int .i64 (-a0_2), .int .i64 (-a0_0), .int .i64 a0_1, .int .i64 (-a0_2), .int .i64 (-a0_0), .int .i64 (-a0_1), .int .i64 a0_2] 23)).cell? ⟨Vs.heap.size + 1, 8, none⟩ = some (.int .i64 0) := by simp [go_sem]
    have xl9 : (((Vs.alloc (Obj.cells #[.bool false] 27)).alloc (.cells #[.int .i64 0, .int .i64 4294967296, .int .i64 0, .int .i64 0, .int .i64 0, .int .i64 0, .int .i64 4294967296, .int .i64 0, .int .i64 0, .int .i64 0, .int .i64 0, .int .i64 4294967296] 32)).alloc (.cells #[.int .i64 a0_0, .int .i64 (-a0_1), .int .i64 (-a0_2), .int .i64 (-a0_0), .int .i64 a0_1, .int .i64 (-a0_2), .int .i64 (-a0_0), .int .i64 (-a0_1), .int .i64 a0_2] 23)).cell? ⟨Vs.heap.size + 1, 9, none⟩ = some (.int .i64 0) := by simp [go_sem]
    have xl10 : (((Vs.alloc (Obj.cells #[.bool false] 27)).alloc (.cells #[.int .i64 0, .int .i64 4294967296, .int .i64 0, .int .i64 0, .int .i64 0, .int .i64 0, .int .i64 4294967296, .int .i64 0, .int .i64 0, .int .i64 0, .int .i64 0, .int .i64 4294967296] 32)).alloc (.cells #[.int .i64 a0_0, .int .i64 (-a0_1), .int .i64 (-a0_2), .int .i64 (-a0_0), .int .i64 a0_1, .int .i64 (-a0_2), .int .i64 (-a0_0), .int .i64 (-a0_1), .int .i64 a0_2] 23)).cell? ⟨Vs.heap.size + 1, 10, none⟩ = some (.int .i64 0) := by simp [go_sem]
    have xl11 : (((Vs.alloc (Obj.cells #[.bool false] 27)).alloc (.cells #[.int .i64 0, .int .i64 4294967296, .int .i64 0, .int .i64 0, .int .i64 0, .int .i64 0, .int .i64 4294967296, .int .i64 0, .int .i64 0, .int .i64 0, .int .i64 0, .int .i64 4294967296] 32)).alloc (.cells #[.int .i64 a0_0, .int .i64 (-a0_1), .int .i64 (-a0_2), .int .i64 (-a0_0), .int .i64 a0_1, .int .i64 (-a0_2), .int .i64 (-a0_0), .int .i64 (-a0_1), .int .i64 a0_2] 23)).cell? ⟨Vs.heap.size + 1, 11, none⟩ = some (.int .i64 4294967296) := by simp [go_sem]
    have xq0 : (((Vs.alloc (Obj.cells #[.bool false] 27)).alloc (.cells #[.int .i64 0, .int .i64 4294967296, .int .i64 0, .int .i64 0, .int .i64 0, .int .i64 0, .int .i64 4294967296, .int .i64 0, .int .i64 0, .int .i64 0, .int .i64 0, .int .i64 4294967296] 32)).alloc (.cells #[.int .i64 a0_0, .int .i64 (-a0_1), .int .i64 (-a0_2), .int .i64 (-a0_0), .int .i64 a0_1, .int .i64 (-a0_2), .int .i64 (-a0_0), .int .i64 (-a0_1), .int .i64 a0_2] 23)).cell? ⟨Vs.heap.size + 1 + 1, 0, none⟩ = some (.int .i64 a0_0) := by simp [go_sem]
    have xq1 : (((Vs.alloc (Obj.cells #[.bool false] 27)).alloc (.cells #[.int .i64 0, .int .i64 4294967296, .int .i64 0, .int .i64 0, .int .i64 0, .int .i64 0, .int .i64 4294967296, .int .i64 0, .int .i64 0, .int .i64 0, .int .i64 0, .int .i64 4294967296] 32)).alloc (.cells #[.int .i64 a0_0, .int .i64 (-a0_1), .int .i64 (-a0_2), .int .i64 (-a0_0), .int .i64 a0_1, .int .i64 (-a0_2), .int .i64 (-a0_0), .int .i64 (-a0_1), .int .i64 a0_2] 23)).cell? ⟨Vs.heap.size + 1 + 1, 1, none⟩ = some (.int .i64 (-a0_1)) := by simp [go_sem]
    have xq2 : (((Vs.alloc (Obj.cells #[.bool false] 27)).alloc (.cells #[.int .i64 0, .int .i64 4294967296, .int .i64 0, .int .i64 0, .int .i64 0, .int .i64 0, .int .i64 4294967296, .int .i64 0, .int .i64 0, .int .i64 0, .int .i64 0, .int .i64 4294967296] 32)).alloc (.cells #[.int .i64 a0_0, .int .i64 (-a0_1), .int .i64 (-a0_2), .int .i64 (-a0_0), .int .i64 a0_1, .int .i64 (-a0_2), .int .i64 (-a0_0), .int .i64 (-a0_1), .int .i64 a0_2] 23)).cell? ⟨Vs.heap.size + 1 + 1, 2, none⟩ = some (.int .i64 (-a0_2)) := by simp [go_sem]
    have xq3 : (((Vs.alloc (Obj.cells #[.bool false] 27)).alloc (.cells #[.int .i64 0, .int .i64 4294967296, .int .i64 0, .int .i64 0, .int .i64 0, .int .i64 0, .int .i64 4294967296, .int .i64 0, .int .i64 0, .int .i64 0, .int .i64 0, .int .i64 4294967296] 32)).alloc (.cells #[.int .i64 a0_0, .int .i64 (-a0_1), .int .i64 (-a0_2), .int .i64 (-a0_0), .int .i64 a0_1, .int .i64 (-a0_2), .int .i64 (-a0_0), .int .i64 (-a0_1), .int .i64 a0_2] 23)).cell? ⟨Vs.heap.size + 1 + 1, 3, none⟩ = some (.int .i64 (-a0_0)) := by simp [go_sem]
    have xq4 : (((Vs.alloc (Obj.cells #[.bool false] 27)).alloc (.cells #[.int .i64 0, .int .i64 4294967296, .int .i64 0, .int .i64 0, .int .i64 0, .int .i64 0, .int .i64 4294967296, .int .i64 0, .int .i64 0, .int .i64 0, .int .i64 0, .int .i64 4294967296] 32)).alloc (.cells #[.int .i64 a0_0, .int .i64 (-a0_1), .int .i64 (-a0_2), .int .i64 (-a0_0), .int .i64 a0_1, .int .i64 (-a0_2), .int .i64 (-a0_0), .int .i64 (-a0_1), .int .i64 a0_2] 23)).cell? ⟨Vs.heap.size + 1 + 1, 4, none⟩ = some (.int .i64 a0_1) := by simp [go_sem]
    have xq5 : (((Vs.alloc (Obj.cells #[.bool false] 27)).alloc (.cells #[.int .i64 0, .int .i64 4294967296, .int .i64 0, .int .i64 0, .int .i64 0, .int .i64 0, .int .i64 4294967296, .int .i64 0, .int .i64 0, .int .i64 0, .int .i64 0, .int .i64 4294967296] 32)).alloc (.cells #[.int .i64 a0_0, .int .i64 (-a0_1), .int .i64 (-a0_2), .int .i64 (-a0_0), .int .i64 a0_1, .int .i64 (-a0_2), .int .i64 (-a0_0), .int .i64 (-a0_1), .int .i64 a0_2] 23)).cell? ⟨Vs.heap.size + 1 + 1, 5, none⟩ = some (.int .i64 (-a0_2)) := by simp [go_sem]
    have xq6 : (((Vs.alloc (Obj.cells #[.bool false] 27)).alloc (.cells #[.int .i64 0, .int .i64 4294967296, .int .i64 0, .int .i64 0, .int .i64 0, .int .i64 0, .int .i64 4294967296, .int .i64 0, .int .i64 0, .int .i64 0, .int .i64 0, .int .i64 4294967296] 32)).alloc (.cells #[.int .i64 a0_0, .int .i64 (-a0_1), .int .i64 (-a0_2), .int .i64 (-a0_0), .int .i64 a0_1, .int .i64 (-a0_2), .int .i64 (-a0_0), .int .i64 (-a0_1), .int .i64 a0_2] 23)).cell? ⟨Vs.heap.size + 1 + 1, 6, none⟩ = some (.int .i64 (-a0_0)) := by simp [go_sem]
    have xq7 : (((Vs.alloc (Obj.cells #[.bool false] 27)).alloc (.cells #[.int .i64 0, .int .i64 4294967296, .int .i64 0, .int .i64 0, .int .i64 0, .int .i64 0, .int .i64 4294967296, .int .i64 0, .int .i64 0, .int .i64 0, .int .i64 0, .int .i64 4294967296] 32)).alloc (.cells #[.int .i64 a0_0, .int .i64 (-a0_1), .int .i64 (-a0_2), .int .i64 (-a0_0), .int .i64 a0_1, .int .i64 (-a0_2), .int .i64 (-a0_0), .int .i64 (-a0_1), .int .i64 a0_2] 23)).cell? ⟨Vs.heap.size + 1 + 1, 7, none⟩ = some (.int .i64 (-a0_1)) := by simp [go_sem]
    have xq8 : (((Vs.alloc (Obj.cells #[.bool false] 27)).alloc (.cells #[.int .i64 0, .int .i64 4294967296, .int .i64 0, .int .i64 0, .int .i64 0, .int .i64 0, .int .i64 4294967296, .int .i64 0, .int .i64 0, .int .i64 0, .int .i64 0, .int .i64 4294967296] 32)).alloc (.cells #[.int .i64 a0_0, .int .i64 (-a0_1), .int .i64 (-a0_2), .int .i64 (-a0_0), .int .i64 a0_1, .int .i64 (-a0_2), .int .i64 (-a0_0), .int .i64 (-a0_1), .int .i64 a0_2] 23)).cell? ⟨Vs.heap.size + 1 + 1, 8, none⟩ = some (.int .i64 a0_2) := by simp [go_sem]
    obtain ⟨U0, hU0⟩ : ∃ U, U = ((Vs.alloc (Obj.cells #[.bool false] 27)).alloc (.cells #[.int .i64 0, .int .i64 4294967296, .int .i64 0, .int .i64 0, .int .i64 0, .int .i64 0, .int .i64 4294967296, .int .i64 0, .int .i64 0, .int .i64 0, .int .i64 0, .int .i64 4294967296] 32)).alloc (.cells #[.int .i64 a0_0, .int .i64 (-a0_1), .int .i64 (-a0_2), .int .i64 (-a0_0), .int .i64 a0_1, .int .i64 (-a0_2), .int .i64 (-a0_0), .int .i64 (-a0_1), .int .i64 a0_2] 23) := ⟨_, rfl⟩
    rw [← hU0] at HB0 c f xa0 xa1 xa2 xl0 xl1 xl2 xl3 xl4 xl5 xl6 xl7 xl8 xl9 xl10 xl11 xq0 xq1 xq2 xq3 xq4 xq5 xq6 xq7 xq8
    rw [← hU0]
    clear hU0 xpa_0 xpa_1 xpa_2
    obtain ⟨pw, hpw⟩ : ∃ p, p = Vs.heap.size := ⟨_, rfl⟩
    obtain ⟨pl, hpl⟩ : ∃ p, p = Vs.heap.size + 1 := ⟨_, rfl⟩
    obtain ⟨pq, hpq⟩ : ∃ p, p = Vs.heap.size + 1 + 1 := ⟨_, rfl⟩
    rw [← hpq, ← hpl, ← hpw]
    rw [← hpq] at xq0 xq1 xq2 xq3 xq4 xq5 xq6 xq7 xq8
    rw [← hpl] at xl0 xl1 xl2 xl3 xl4 xl5 xl6 xl7 xl8 xl9 xl10 xl11
    rw [← hpw] at c f
    have qw : w.heap.size ≤ pw := by omega
    have qaw : pa < pw := by omega
    have qwl : pw < pl := by omega
    have qlq : pl < pq := by omega
    clear hpq hpl hpw qs hw' qpv HB
    go_loopw [8] (fun i wr => ∃ (k : Nat), k ≤ 3 ∧ i = .int .i64 k ∧ Hid (Below w.heap.size w wr) ∧ wr.cell? ⟨pw, 0, none⟩ = some (.bool false) ∧ wr.frozen? ⟨pw, 0, none⟩ = false ∧ wr.cell? ⟨pa, 0, none⟩ = some (.int .i64 a0_0) ∧ wr.cell? ⟨pa, 1, none⟩ = some (.int .i64 a0_1) ∧ wr.cell? ⟨pa, 2, none⟩ = some (.int .i64 a0_2) ∧ wr.cell? ⟨pl, 0, none⟩ = some (.int .i64 0) ∧ wr.cell? ⟨pl, 1, none⟩ = some (.int .i64 4294967296) ∧ wr.cell? ⟨pl, 2, none⟩ = some (.int .i64 0) ∧ wr.cell? ⟨pl, 3, none⟩ = some (.int .i64 0) ∧ wr.cell? ⟨pl, 4, none⟩ = some (.int .i64 0) ∧ wr.cell? ⟨pl, 5, none⟩ = some (.int .i64 0) ∧ wr.cell? ⟨pl, 6, none⟩ = some (.int .i64 4294967296) ∧ wr.cell? ⟨pl, 7, none⟩ = some (.int .i64 0) ∧ wr.cell? ⟨pl, 8, none⟩ = some (.int .i64 0) ∧ wr.cell? ⟨pl, 9, none⟩ = some (.int .i64 0) ∧ wr.cell? ⟨pl, 10, none⟩ = some (.int .i64 0) ∧ wr.cell? ⟨pl, 11, none⟩ = some (.int .i64 4294967296) ∧ wr.cell? ⟨pq, 0, none⟩ = some (.int .i64 a0_0) ∧ wr.cell? ⟨pq, 1, none⟩ = some (.int .i64 (-a0_1)) ∧ wr.cell? ⟨pq, 2, none⟩ = some (.int .i64 (-a0_2)) ∧ wr.cell? ⟨pq, 3, none⟩ = some (.int .i64 (-a0_0)) ∧ wr.cell? ⟨pq, 4, none⟩ = some (.int .i64 a0_1) ∧ wr.cell? ⟨pq, 5, none⟩ = some (.int .i64 (-a0_2)) ∧ wr.cell? ⟨pq, 6, none⟩ = some (.int .i64 (-a0_0)) ∧ wr.cell? ⟨pq, 7, none⟩ = some (.int .i64 (-a0_1)) ∧ wr.cell? ⟨pq, 8, none⟩ = some (.int .i64 a0_2)) (fun i _ => 3 - (intOf i).toNat)
    case atStart => exact ⟨0, by omega, rfl, HB0, c, f, xa0, xa1, xa2, xl0, xl1, xl2, xl3, xl4, xl5, xl6, xl7, xl8, xl9, xl10, xl11, xq0, xq1, xq2, xq3, xq4, xq5, xq6, xq7, xq8⟩
    case round =>
      clear HB0 c f xa0 xa1 xa2 xl0 xl1 xl2 xl3 xl4 xl5 xl6 xl7 xl8 xl9 xl10 xl11 xq0 xq1 xq2 xq3 xq4 xq5 xq6 xq7 xq8
      obtain ⟨k, hk, rfl, HB, c, f, xa0, xa1, xa2, xl0, xl1, xl2, xl3, xl4, xl5, xl6, xl7, xl8, xl9, xl10, xl11, xq0, xq1, xq2, xq3, xq4, xq5, xq6, xq7, xq8⟩ := hrel
      match k, hk with
      | 0, _ =>
        have hk0 : rowsBad 0 4294967296 0 0 = false := by rfl
        have hv0 : (cond (rowsBad 0 4294967296 0 0) 0 (rowsAt0 0 4294967296 0 0)) = 4294967296 := by rfl
        have hv1 : (cond (rowsBad 0 4294967296 0 0) 0 (rowsAt1 0 4294967296 0 0)) = 0 := by rfl
        have hv2 : (cond (rowsBad 0 4294967296 0 0) 0 (rowsAt2 0 4294967296 0 0)) = 0 := by rfl
        have hv3 : (cond (rowsBad 0 4294967296 0 0) 0 (rowsAt3 0 4294967296 0 0)) = 0 := by rfl
        have hv4 : (cond (rowsBad 0 4294967296 0 0) 0 (rowsAt4 0 4294967296 0 0)) = -4294967296 := by rfl
        have hv5 : (cond (rowsBad 0 4294967296 0 0) 0 (rowsAt5 0 4294967296 0 0)) = 0 := by rfl
        have hv6 : (cond (rowsBad 0 4294967296 0 0) 0 (rowsAt6 0 4294967296 0 0)) = 0 := by rfl
        have hv7 : (cond (rowsBad 0 4294967296 0 0) 0 (rowsAt7 0 4294967296 0 0)) = 0 := by rfl
        have hv8 : (cond (rowsBad 0 4294967296 0 0) 0 (rowsAt8 0 4294967296 0 0)) = -4294967296 := by rfl
        have HV : Hid _ := And.intro hk0 (And.intro hv0 (And.intro hv1 (And.intro hv2 (And.intro hv3 (And.intro hv4 (And.intro hv5 (And.intro hv6 (And.intro hv7 hv8))))))))
        clear hk0 hv0 hv1 hv2 hv3 hv4 hv5 hv6 hv7 hv8
        go_wp2_with (fail)
        refine (vrows_law pw 0 false 0 4294967296 0 0 _ c f).mono ?_
        rintro e W1 ⟨rfl, Z⟩
        obtain ⟨hk0, hv0, hv1, hv2, hv3, hv4, hv5, hv6, hv7, hv8⟩ := HV.out
        rw [hv0, hv1, hv2, hv3, hv4, hv5, hv6, hv7, hv8]
        rw [hk0] at Z
        clear HV hk0 hv0 hv1 hv2 hv3 hv4 hv5 hv6 hv7 hv8
        have HB1 : Hid _ := Z.out.below _ _ HB.out qw HB.out.size
        have c1 := Z.out.cell
        have f1 := Z.out.frozen
        have axa0 := Z.out.cellOf xa0 (by show pa ≠ pw; omega)
        have axa1 := Z.out.cellOf xa1 (by show pa ≠ pw; omega)
        have axa2 := Z.out.cellOf xa2 (by show pa ≠ pw; omega)
        have axl0 := Z.out.cellOf xl0 (by show pl ≠ pw; omega)
        have axl1 := Z.out.cellOf xl1 (by show pl ≠ pw; omega)
        have axl2 := Z.out.cellOf xl2 (by show pl ≠ pw; omega)
        have axl3 := Z.out.cellOf xl3 (by show pl ≠ pw; omega)
        have axl4 := Z.out.cellOf xl4 (by show pl ≠ pw; omega)
        have axl5 := Z.out.cellOf xl5 (by show pl ≠ pw; omega)
        have axl6 := Z.out.cellOf xl6 (by show pl ≠ pw; omega)
        have axl7 := Z.out.cellOf xl7 (by show pl ≠ pw; omega)
        have axl8 := Z.out.cellOf xl8 (by show pl ≠ pw; omega)
        have axl9 := Z.out.cellOf xl9 (by show pl ≠ pw; omega)
        have axl10 := Z.out.cellOf xl10 (by show pl ≠ pw; omega)
        have axl11 := Z.out.cellOf xl11 (by show pl ≠ pw; omega)
        have axq0 := Z.out.cellOf xq0 (by show pq ≠ pw; omega)
        have axq1 := Z.out.cellOf xq1 (by show pq ≠ pw; omega)
        have axq2 := Z.out.cellOf xq2 (by show pq ≠ pw; omega)
        have axq3 := Z.out.cellOf xq3 (by show pq ≠ pw; omega)
        have axq4 := Z.out.cellOf xq4 (by show pq ≠ pw; omega)
        have axq5 := Z.out.cellOf xq5 (by show pq ≠ pw; omega)
        have axq6 := Z.out.cellOf xq6 (by show pq ≠ pw; omega)
        have axq7 := Z.out.cellOf xq7 (by show pq ≠ pw; omega)
        have axq8 := Z.out.cellOf xq8 (by show pq ≠ pw; omega)
        have q1 : pw < W1.heap.size := World.block_lt_of_cell? _ _ c1
        clear Z c f HB xa0 xa1 xa2 xl0 xl1 xl2 xl3 xl4 xl5 xl6 xl7 xl8 xl9 xl10 xl11 xq0 xq1 xq2 xq3 xq4 xq5 xq6 xq7 xq8
        obtain ⟨pm, hpm⟩ : ∃ p, p = W1.heap.size := ⟨_, rfl⟩
        have nb := new_after W1 (.cells #[.int .i64 4294967296, .int .i64 0, .int .i64 0, .int .i64 0, .int .i64 (-4294967296), .int .i64 0, .int .i64 0, .int .i64 0, .int .i64 (-4294967296)] 37)
        have HB2 : Hid _ := HB1.out.alloc HB1.out.size (.cells #[.int .i64 4294967296, .int .i64 0, .int .i64 0, .int .i64 0, .int .i64 (-4294967296), .int .i64 0, .int .i64 0, .int .i64 0, .int .i64 (-4294967296)] 37)
        have f2 := frozen_after nb c1 f1
        have c2 := cell_after nb c1
        have bxa0 := cell_after nb axa0
        have bxa1 := cell_after nb axa1
        have bxa2 := cell_after nb axa2
        have bxl0 := cell_after nb axl0
        have bxl1 := cell_after nb axl1
        have bxl2 := cell_after nb axl2
        have bxl3 := cell_after nb axl3
        have bxl4 := cell_after nb axl4
        have bxl5 := cell_after nb axl5
        have bxl6 := cell_after nb axl6
        have bxl7 := cell_after nb axl7
        have bxl8 := cell_after nb axl8
        have bxl9 := cell_after nb axl9
        have bxl10 := cell_after nb axl10
        have bxl11 := cell_after nb axl11
        have bxq0 := cell_after nb axq0
        have bxq1 := cell_after nb axq1
        have bxq2 := cell_after nb axq2
        have bxq3 := cell_after nb axq3
        have bxq4 := cell_after nb axq4
        have bxq5 := cell_after nb axq5
        have bxq6 := cell_after nb axq6
        have bxq7 := cell_after nb axq7
        have bxq8 := cell_after nb axq8
        have bm0 : (W1.alloc (.cells #[.int .i64 4294967296, .int .i64 0, .int .i64 0, .int .i64 0, .int .i64 (-4294967296), .int .i64 0, .int .i64 0, .int .i64 0, .int .i64 (-4294967296)] 37)).cell? ⟨pm, 0, none⟩ = some (.int .i64 4294967296) := by rw [hpm]; simp
        have bm1 : (W1.alloc (.cells #[.int .i64 4294967296, .int .i64 0, .int .i64 0, .int .i64 0, .int .i64 (-4294967296), .int .i64 0, .int .i64 0, .int .i64 0, .int .i64 (-4294967296)] 37)).cell? ⟨pm, 1, none⟩ = some (.int .i64 0) := by rw [hpm]; simp
        have bm2 : (W1.alloc (.cells #[.int .i64 4294967296, .int .i64 0, .int .i64 0, .int .i64 0, .int .i64 (-4294967296), .int .i64 0, .int .i64 0, .int .i64 0, .int .i64 (-4294967296)] 37)).cell? ⟨pm, 2, none⟩ = some (.int .i64 0) := by rw [hpm]; simp
        have bm3 : (W1.alloc (.cells #[.int .i64 4294967296, .int .i64 0, .int .i64 0, .int .i64 0, .int .i64 (-4294967296), .int .i64 0, .int .i64 0, .int .i64 0, .int .i64 (-4294967296)] 37)).cell? ⟨pm, 3, none⟩ = some (.int .i64 0) := by rw [hpm]; simp
        have bm4 : (W1.alloc (.cells #[.int .i64 4294967296, .int .i64 0, .int .i64 0, .int .i64 0, .int .i64 (-4294967296), .int .i64 0, .int .i64 0, .int .i64 0, .int .i64 (-4294967296)] 37)).cell? ⟨pm, 4, none⟩ = some (.int .i64 (-4294967296)) := by rw [hpm]; simp
        have bm5 : (W1.alloc (.cells #[.int .i64 4294967296, .int .i64 0, .int .i64 0, .int .i64 0, .int .i64 (-4294967296), .int .i64 0, .int .i64 0, .int .i64 0, .int .i64 (-4294967296)] 37)).cell? ⟨pm, 5, none⟩ = some (.int .i64 0) := by rw [hpm]; simp
        have bm6 : (W1.alloc (.cells #[.int .i64 4294967296, .int .i64 0, .int .i64 0, .int .i64 0, .int .i64 (-4294967296), .int .i64 0, .int .i64 0, .int .i64 0, .int .i64 (-4294967296)] 37)).cell? ⟨pm, 6, none⟩ = some (.int .i64 0) := by rw [hpm]; simp
        have bm7 : (W1.alloc (.cells #[.int .i64 4294967296, .int .i64 0, .int .i64 0, .int .i64 0, .int .i64 (-4294967296), .int .i64 0, .int .i64 0, .int .i64 0, .int .i64 (-4294967296)] 37)).cell? ⟨pm, 7, none⟩ = some (.int .i64 0) := by rw [hpm]; simp
        have bm8 : (W1.alloc (.cells #[.int .i64 4294967296, .int .i64 0, .int .i64 0, .int .i64 0, .int .i64 (-4294967296), .int .i64 0, .int .i64 0, .int .i64 0, .int .i64 (-4294967296)] 37)).cell? ⟨pm, 8, none⟩ = some (.int .i64 (-4294967296)) := by rw [hpm]; simp
        have qm : pw < pm := by omega
        clear nb c1 f1 HB1 axa0 axa1 axa2 axl0 axl1 axl2 axl3 axl4 axl5 axl6 axl7 axl8 axl9 axl10 axl11 axq0 axq1 axq2 axq3 axq4 axq5 axq6 axq7 axq8
        go_wp2_with (fail)
        rw [← hpm]
        refine (vturn_law pw 0 false 4294967296 0 0 0 (-4294967296) 0 0 0 (-4294967296) a0_0 a0_1 a0_2 _ c2 f2).mono ?_
        rintro e W2 ⟨v0, v1, v2, g, rfl, S, Z⟩
        obtain ⟨rfl, rfl, rfl, rfl⟩ : a0_0 = v0 ∧ (-a0_1) = v1 ∧ (-a0_2) = v2 ∧ false = g := by
          have h := S.out
          rw [dg0p hX hY hZ, dg1n hX hY hZ, dg2n hX hY hZ] at h
          have h2 : v0 = a0_0 ∧ v1 = (-a0_1) ∧ v2 = (-a0_2) ∧ g = false := h
          exact ⟨h2.1.symm, h2.2.1.symm, h2.2.2.1.symm, h2.2.2.2.symm⟩
        have HB3 : Hid _ := Z.out.below _ _ HB2.out qw HB2.out.size
        have c3 := Z.out.cell
        have f3 := Z.out.frozen
        have dxa0 := Z.out.cellOf bxa0 (by show pa ≠ pw; omega)
        have dxa1 := Z.out.cellOf bxa1 (by show pa ≠ pw; omega)
        have dxa2 := Z.out.cellOf bxa2 (by show pa ≠ pw; omega)
        have dxl0 := Z.out.cellOf bxl0 (by show pl ≠ pw; omega)
        have dxl1 := Z.out.cellOf bxl1 (by show pl ≠ pw; omega)
        have dxl2 := Z.out.cellOf bxl2 (by show pl ≠ pw; omega)
        have dxl3 := Z.out.cellOf bxl3 (by show pl ≠ pw; omega)
        have dxl4 := Z.out.cellOf bxl4 (by show pl ≠ pw; omega)
        have dxl5 := Z.out.cellOf bxl5 (by show pl ≠ pw; omega)
        have dxl6 := Z.out.cellOf bxl6 (by show pl ≠ pw; omega)
        have dxl7 := Z.out.cellOf bxl7 (by show pl ≠ pw; omega)
        have dxl8 := Z.out.cellOf bxl8 (by show pl ≠ pw; omega)
        have dxl9 := Z.out.cellOf bxl9 (by show pl ≠ pw; omega)
        have dxl10 := Z.out.cellOf bxl10 (by show pl ≠ pw; omega)
        have dxl11 := Z.out.cellOf bxl11 (by show pl ≠ pw; omega)
        have dxq0 := Z.out.cellOf bxq0 (by show pq ≠ pw; omega)
        have dxq1 := Z.out.cellOf bxq1 (by show pq ≠ pw; omega)
        have dxq2 := Z.out.cellOf bxq2 (by show pq ≠ pw; omega)
        have dxq3 := Z.out.cellOf bxq3 (by show pq ≠ pw; omega)
        have dxq4 := Z.out.cellOf bxq4 (by show pq ≠ pw; omega)
        have dxq5 := Z.out.cellOf bxq5 (by show pq ≠ pw; omega)
        have dxq6 := Z.out.cellOf bxq6 (by show pq ≠ pw; omega)
        have dxq7 := Z.out.cellOf bxq7 (by show pq ≠ pw; omega)
        have dxq8 := Z.out.cellOf bxq8 (by show pq ≠ pw; omega)
        have dm0 := Z.out.cellOf bm0 (by show pm ≠ pw; omega)
        have dm1 := Z.out.cellOf bm1 (by show pm ≠ pw; omega)
        have dm2 := Z.out.cellOf bm2 (by show pm ≠ pw; omega)
        have dm3 := Z.out.cellOf bm3 (by show pm ≠ pw; omega)
        have dm4 := Z.out.cellOf bm4 (by show pm ≠ pw; omega)
        have dm5 := Z.out.cellOf bm5 (by show pm ≠ pw; omega)
        have dm6 := Z.out.cellOf bm6 (by show pm ≠ pw; omega)
        have dm7 := Z.out.cellOf bm7 (by show pm ≠ pw; omega)
        have dm8 := Z.out.cellOf bm8 (by show pm ≠ pw; omega)
        clear Z S c2 f2 HB2 hpm bxa0 bxa1 bxa2 bxl0 bxl1 bxl2 bxl3 bxl4 bxl5 bxl6 bxl7 bxl8 bxl9 bxl10 bxl11 bxq0 bxq1 bxq2 bxq3 bxq4 bxq5 bxq6 bxq7 bxq8 bm0 bm1 bm2 bm3 bm4 bm5 bm6 bm7 bm8
        have q2 : pm < W2.heap.size := World.block_lt_of_cell? _ _ dm0
        obtain ⟨pb, hpb⟩ : ∃ p, p = W2.heap.size := ⟨_, rfl⟩
        have nb := new_after W2 (.cells #[.int .i64 a0_0, .int .i64 (-a0_1), .int .i64 (-a0_2)] 23)
        have HB4 : Hid _ := HB3.out.alloc HB3.out.size (.cells #[.int .i64 a0_0, .int .i64 (-a0_1), .int .i64 (-a0_2)] 23)
        have f := frozen_after nb c3 f3
        have c := cell_after nb c3
        have xa0 := cell_after nb dxa0
        have xa1 := cell_after nb dxa1
        have xa2 := cell_after nb dxa2
        have xl0 := cell_after nb dxl0
        have xl1 := cell_after nb dxl1
        have xl2 := cell_after nb dxl2
        have xl3 := cell_after nb dxl3
        have xl4 := cell_after nb dxl4
        have xl5 := cell_after nb dxl5
        have xl6 := cell_after nb dxl6
        have xl7 := cell_after nb dxl7
        have xl8 := cell_after nb dxl8
        have xl9 := cell_after nb dxl9
        have xl10 := cell_after nb dxl10
        have xl11 := cell_after nb dxl11
        have xq0 := cell_after nb dxq0
        have xq1 := cell_after nb dxq1
        have xq2 := cell_after nb dxq2
        have xq3 := cell_after nb dxq3
        have xq4 := cell_after nb dxq4
        have xq5 := cell_after nb dxq5
        have xq6 := cell_after nb dxq6
        have xq7 := cell_after nb dxq7
        have xq8 := cell_after nb dxq8
        have em0 := cell_after nb dm0
        have em1 := cell_after nb dm1
        have em2 := cell_after nb dm2
        have em3 := cell_after nb dm3
        have em4 := cell_after nb dm4
        have em5 := cell_after nb dm5
        have em6 := cell_after nb dm6
        have em7 := cell_after nb dm7
        have em8 := cell_after nb dm8
        have eb0 : (W2.alloc (.cells #[.int .i64 a0_0, .int .i64 (-a0_1), .int .i64 (-a0_2)] 23)).cell? ⟨pb, 0, none⟩ = some (.int .i64 a0_0) := by rw [hpb]; simp
        have eb1 : (W2.alloc (.cells #[.int .i64 a0_0, .int .i64 (-a0_1), .int .i64 (-a0_2)] 23)).cell? ⟨pb, 1, none⟩ = some (.int .i64 (-a0_1)) := by rw [hpb]; simp
        have eb2 : (W2.alloc (.cells #[.int .i64 a0_0, .int .i64 (-a0_1), .int .i64 (-a0_2)] 23)).cell? ⟨pb, 2, none⟩ = some (.int .i64 (-a0_2)) := by rw [hpb]; simp
        clear nb c3 f3 HB3 dxa0 dxa1 dxa2 dxl0 dxl1 dxl2 dxl3 dxl4 dxl5 dxl6 dxl7 dxl8 dxl9 dxl10 dxl11 dxq0 dxq1 dxq2 dxq3 dxq4 dxq5 dxq6 dxq7 dxq8 dm0 dm1 dm2 dm3 dm4 dm5 dm6 dm7 dm8
        have hXb : -1152921504606846976 ≤ a0_0 ∧ a0_0 ≤ 1152921504606846976 := by omega
        have hYb : -1152921504606846976 ≤ (-a0_1) ∧ (-a0_1) ≤ 1152921504606846976 := by omega
        have hZb : -1152921504606846976 ≤ (-a0_2) ∧ (-a0_2) ≤ 1152921504606846976 := by omega
        have T0 := dg0p hXb hYb hZb
        have T1 := dg1n hXb hYb hZb
        have T2 := dg2n hXb hYb hZb
        simp only [Int.neg_neg] at T0 T1 T2
        have HT : Hid _ := And.intro T0 (And.intro T1 T2)
        clear T0 T1 T2
        go_wp2_with (fail)
        rw [← hpb]
        obtain ⟨U, hU⟩ : ∃ U, U = W2.alloc (.cells #[.int .i64 a0_0, .int .i64 (-a0_1), .int .i64 (-a0_2)] 23) := ⟨_, rfl⟩
        rw [← hU] at c f HB4 xa0 xa1 xa2 xl0 xl1 xl2 xl3 xl4 xl5 xl6 xl7 xl8 xl9 xl10 xl11 xq0 xq1 xq2 xq3 xq4 xq5 xq6 xq7 xq8 em0 em1 em2 em3 em4 em5 em6 em7 em8 eb0 eb1 eb2
        rw [← hU]
        have qU : pb < U.heap.size := by rw [hU, hpb]; simp
        have qmb : pm < pb := by omega
        have qUl : pl < U.heap.size := World.block_lt_of_cell? _ _ xl0
        have qUq : pq < U.heap.size := World.block_lt_of_cell? _ _ xq0
        clear hU hpb
        obtain ⟨w8, hw8⟩ : ∃ x : World, x = w := ⟨_, rfl⟩
        have HL : Hid (Leaves ⟨pw, 0, none⟩ w8 U) := by show Leaves _ _ _; rw [hw8]; exact leaves_of HB4.out
        have q8 : w8.heap.size ≤ U.heap.size := by rw [hw8]; exact HB4.out.size
        have HW8 : Hid _ := hw8
        clear hw8 HB4
        obtain ⟨T0, T1, T2⟩ := HT.out

        have hπ : (half0_plan pa pw pl pq pm pb a0_0 a0_1 a0_2 w8 U).Good := by
          refine ⟨?_, Or.inl rfl, Or.inl rfl, ?_, Or.inl rfl, ?_, (half0_bads pa pw pl pq pm pb a0_0 a0_1 a0_2 w8 U).1, (half0_bads pa pw pl pq pm pb a0_0 a0_1 a0_2 w8 U).2⟩
          · show w8.heap.size ≤ U.heap.size; omega
          · show pw < U.heap.size; omega
          · intro c hc
            simp only [half0_plan, List.mem_cons, List.not_mem_nil, or_false] at hc
            rcases hc with rfl | rfl | rfl | rfl | rfl | rfl | rfl | rfl | rfl | rfl | rfl | rfl | rfl | rfl | rfl | rfl | rfl | rfl | rfl | rfl | rfl | rfl | rfl | rfl | rfl | rfl | rfl | rfl | rfl | rfl | rfl | rfl | rfl | rfl | rfl | rfl <;> (show _ < U.heap.size ∧ _ ≠ pw ∧ _ ≠ pw) <;> (dsimp only) <;> omega
        refine region_by (shapeVal (half0_sh pa pw pl pq pm pb a0_0 a0_1 a0_2 w8 U)) (Glob (half0_plan pa pw pl pq pm pb a0_0 a0_1 a0_2 w8 U)) (by kernel_rfl) (by kernel_rfl) (by kernel_rfl) (by kernel_rfl) (fun _ => 0) ?_ ?_ ?_
        · refine ⟨?_, ?_, ?_, ?_, ?_, ?_, (fun _ _ h => by cases h), (fun _ _ _ _ h => by cases h)⟩
          · exact HL.out.drew
          · exact Nat.le_refl _
          · exact ⟨false, c, f, fun h => (by cases h), fun h => h, fun _ _ h => by cases h⟩
          · exact Or.inl rfl
          · exact ⟨[], rfl, fun k v hk => by simp at hk, fun h => by cases h⟩
          · intro x hx
            simp only [half0_plan, List.mem_cons, List.not_mem_nil, or_false] at hx
            rcases hx with rfl | rfl | rfl | rfl | rfl | rfl | rfl | rfl | rfl | rfl | rfl | rfl | rfl | rfl | rfl | rfl | rfl | rfl | rfl | rfl | rfl | rfl | rfl | rfl | rfl | rfl | rfl | rfl | rfl | rfl | rfl | rfl | rfl | rfl | rfl | rfl <;> assumption
        · generalize hD : dstOf _ = D
          generalize hA : waitsFor _ = A
          generalize hZ : Act.mk _ _ = Z
          have d0 : D 0 = some 65 := by rw [← hD]; rfl
          have d1 : D 1 = some 66 := by rw [← hD]; rfl
          have d2 : D 2 = some 67 := by rw [← hD]; rfl
          have d3 : D 3 = some 68 := by rw [← hD]; rfl
          have d4 : D 4 = some 69 := by rw [← hD]; rfl
          have d5 : D 5 = some 70 := by rw [← hD]; rfl
          have d6 : D 6 = some 71 := by rw [← hD]; rfl
          have d7 : D 7 = some 72 := by rw [← hD]; rfl
          have d8 : D 8 = some 73 := by rw [← hD]; rfl
          have d9 : D 9 = some 74 := by rw [← hD]; rfl
          have d10 : D 10 = some 75 := by rw [← hD]; rfl
          have d11 : D 11 = some 76 := by rw [← hD]; rfl
          have d12 : D 12 = some 77 := by rw [← hD]; rfl
          have d13 : D 13 = some 78 := by rw [← hD]; rfl
          have d14 : D 14 = some 79 := by rw [← hD]; rfl
          have d15 : D 15 = some 80 := by rw [← hD]; rfl
          have d16 : D 16 = some 81 := by rw [← hD]; rfl
          have d17 : D 17 = some 82 := by rw [← hD]; rfl
          have d18 : D 18 = some 83 := by rw [← hD]; rfl
          have d19 : D 19 = some 84 := by rw [← hD]; rfl
          have d20 : D 20 = some 85 := by rw [← hD]; rfl
          have d21 : D 21 = some 86 := by rw [← hD]; rfl
          have R1 : ∀ (γ : Nat → Nat) (L : Nat → Bool) (a : Act) (w : World), Held D A (shapeVal (half0_sh pa pw pl pq pm pb a0_0 a0_1 a0_2 w8 U)) (Glob (half0_plan pa pw pl pq pm pb a0_0 a0_1 a0_2 w8 U)) Z γ L a w → a.tmps[1]? = some (.pointer (some ⟨pa, 0, none⟩)) := fun γ L a w hH => (hH.rest 1 (by rw [← hD]; exact dst_free (by kernel_rfl))).trans (by rw [← hZ]; rfl)
          have R5 : ∀ (γ : Nat → Nat) (L : Nat → Bool) (a : Act) (w : World), Held D A (shapeVal (half0_sh pa pw pl pq pm pb a0_0 a0_1 a0_2 w8 U)) (Glob (half0_plan pa pw pl pq pm pb a0_0 a0_1 a0_2 w8 U)) Z γ L a w → a.tmps[5]? = some (.pointer (some ⟨pw, 0, none⟩)) := fun γ L a w hH => (hH.rest 5 (by rw [← hD]; exact dst_free (by kernel_rfl))).trans (by rw [← hZ]; rfl)
          have R7 : ∀ (γ : Nat → Nat) (L : Nat → Bool) (a : Act) (w : World), Held D A (shapeVal (half0_sh pa pw pl pq pm pb a0_0 a0_1 a0_2 w8 U)) (Glob (half0_plan pa pw pl pq pm pb a0_0 a0_1 a0_2 w8 U)) Z γ L a w → a.tmps[7]? = some (.slice (some ⟨pq, 0, none⟩) 3 3) := fun γ L a w hH => (hH.rest 7 (by rw [← hD]; exact dst_free (by kernel_rfl))).trans (by rw [← hZ]; rfl)
          have R8 : ∀ (γ : Nat → Nat) (L : Nat → Bool) (a : Act) (w : World), Held D A (shapeVal (half0_sh pa pw pl pq pm pb a0_0 a0_1 a0_2 w8 U)) (Glob (half0_plan pa pw pl pq pm pb a0_0 a0_1 a0_2 w8 U)) Z γ L a w → a.tmps[8]? = some (.int .i64 (0)) := fun γ L a w hH => (hH.rest 8 (by rw [← hD]; exact dst_free (by kernel_rfl))).trans (by rw [← hZ]; rfl)
          have R9 : ∀ (γ : Nat → Nat) (L : Nat → Bool) (a : Act) (w : World), Held D A (shapeVal (half0_sh pa pw pl pq pm pb a0_0 a0_1 a0_2 w8 U)) (Glob (half0_plan pa pw pl pq pm pb a0_0 a0_1 a0_2 w8 U)) Z γ L a w → a.tmps[9]? = some (.pointer (some ⟨pm, 0, none⟩)) := fun γ L a w hH => (hH.rest 9 (by rw [← hD]; exact dst_free (by kernel_rfl))).trans (by rw [← hZ]; rfl)
          have R10 : ∀ (γ : Nat → Nat) (L : Nat → Bool) (a : Act) (w : World), Held D A (shapeVal (half0_sh pa pw pl pq pm pb a0_0 a0_1 a0_2 w8 U)) (Glob (half0_plan pa pw pl pq pm pb a0_0 a0_1 a0_2 w8 U)) Z γ L a w → a.tmps[10]? = some (.pointer (some ⟨pb, 0, none⟩)) := fun γ L a w hH => (hH.rest 10 (by rw [← hD]; exact dst_free (by kernel_rfl))).trans (by rw [← hZ]; rfl)

          clear hD hA hZ
          refine AllDo.cons 0 rfl (does_pure _ rfl rfl (fun γ L a w hH hA => by have e1 := R10 γ L a w hH; have e2 := hH.glob.fix (⟨pb, 0, none⟩, .int .i64 (a0_0)) (by simp [half0_plan]); have e3 := hH.glob.fix (⟨pb, 1, none⟩, .int .i64 ((-a0_1))) (by simp [half0_plan]); have e4 := hH.glob.fix (⟨pb, 2, none⟩, .int .i64 ((-a0_2))) (by simp [half0_plan]); simp [execOp, go_sem, e1, e2, e3, e4])) ?_
          refine AllDo.cons 1 rfl (does_pure _ rfl rfl (fun γ L a w hH hA => by have e1 := R7 γ L a w hH; simp [execOp, go_sem, e1])) ?_
          refine AllDo.cons 2 rfl (does_pure _ rfl rfl (fun γ L a w hH hA => by have e1 := R8 γ L a w hH; simp [execOp, go_sem, e1])) ?_
          refine AllDo.cons 3 rfl (does_pure _ rfl rfl (fun γ L a w hH hA => by have e1 := hH.at d1 (rfl : half0_sh pa pw pl pq pm pb a0_0 a0_1 a0_2 w8 U 1 = _) (hA ⟨1, .data⟩ (by simp) rfl); have e2 := hH.at d2 (rfl : half0_sh pa pw pl pq pm pb a0_0 a0_1 a0_2 w8 U 2 = _) (hA ⟨2, .data⟩ (by simp) rfl); simp [execOp, go_sem, e1, e2])) ?_
          refine AllDo.cons 4 rfl (does_pure _ rfl rfl (fun γ L a w hH hA => by have e1 := hH.at d3 (rfl : half0_sh pa pw pl pq pm pb a0_0 a0_1 a0_2 w8 U 3 = _) (hA ⟨3, .data⟩ (by simp) rfl); have e2 := hH.glob.fix (⟨pq, 0, none⟩, .int .i64 (a0_0)) (by simp [half0_plan]); have e3 := hH.glob.fix (⟨pq, 1, none⟩, .int .i64 ((-a0_1))) (by simp [half0_plan]); have e4 := hH.glob.fix (⟨pq, 2, none⟩, .int .i64 ((-a0_2))) (by simp [half0_plan]); simp [execOp, go_sem, e1, e2, e3, e4])) ?_
          refine AllDo.cons 5 rfl (does_pure _ rfl rfl (fun γ L a w hH hA => by have e1 := hH.at d0 (rfl : half0_sh pa pw pl pq pm pb a0_0 a0_1 a0_2 w8 U 0 = _) (hA ⟨0, .data⟩ (by simp) rfl); have e2 := hH.at d4 (rfl : half0_sh pa pw pl pq pm pb a0_0 a0_1 a0_2 w8 U 4 = _) (hA ⟨4, .data⟩ (by simp) rfl); simp [execOp, go_sem, e1, e2])) ?_
          refine AllDo.cons 6 rfl (does_pure _ rfl rfl (fun γ L a w hH hA => by have e1 := hH.at d5 (rfl : half0_sh pa pw pl pq pm pb a0_0 a0_1 a0_2 w8 U 5 = _) (hA ⟨5, .data⟩ (by simp) rfl); simp [execOp, go_sem, e1])) ?_
          refine AllDo.cons 7 rfl (does_guarded rfl d6 (rfl : half0_sh pa pw pl pq pm pb a0_0 a0_1 a0_2 w8 U 6 = _) (by simp) (does_pure _ rfl rfl (fun γ L a w hH hA => by have e1 := R5 γ L a w hH; simp [execOp, go_sem, e1]))) ?_
          refine AllDo.cons 8 rfl (does_guarded rfl d6 (rfl : half0_sh pa pw pl pq pm pb a0_0 a0_1 a0_2 w8 U 6 = _) (by simp) (does_pure _ rfl rfl (fun γ L a w hH hA => by have e1 := R9 γ L a w hH; have e2 := hH.glob.fix (⟨pm, 0, none⟩, .int .i64 (4294967296)) (by simp [half0_plan]); have e3 := hH.glob.fix (⟨pm, 1, none⟩, .int .i64 (0)) (by simp [half0_plan]); have e4 := hH.glob.fix (⟨pm, 2, none⟩, .int .i64 (0)) (by simp [half0_plan]); have e5 := hH.glob.fix (⟨pm, 3, none⟩, .int .i64 (0)) (by simp [half0_plan]); have e6 := hH.glob.fix (⟨pm, 4, none⟩, .int .i64 (-4294967296)) (by simp [half0_plan]); have e7 := hH.glob.fix (⟨pm, 5, none⟩, .int .i64 (0)) (by simp [half0_plan]); have e8 := hH.glob.fix (⟨pm, 6, none⟩, .int .i64 (0)) (by simp [half0_plan]); have e9 := hH.glob.fix (⟨pm, 7, none⟩, .int .i64 (0)) (by simp [half0_plan]); have e10 := hH.glob.fix (⟨pm, 8, none⟩, .int .i64 (-4294967296)) (by simp [half0_plan]); simp [execOp, go_sem, e1, e2, e3, e4, e5, e6, e7, e8, e9, e10]))) ?_
          refine AllDo.cons 9 rfl (does_guarded rfl d6 (rfl : half0_sh pa pw pl pq pm pb a0_0 a0_1 a0_2 w8 U 6 = _) (by simp) (does_pure _ rfl rfl (fun γ L a w hH hA => by have e1 := R10 γ L a w hH; have e2 := hH.glob.fix (⟨pb, 0, none⟩, .int .i64 (a0_0)) (by simp [half0_plan]); have e3 := hH.glob.fix (⟨pb, 1, none⟩, .int .i64 ((-a0_1))) (by simp [half0_plan]); have e4 := hH.glob.fix (⟨pb, 2, none⟩, .int .i64 ((-a0_2))) (by simp [half0_plan]); simp [execOp, go_sem, e1, e2, e3, e4]))) ?_
          refine AllDo.cons 10 rfl (does_guarded rfl d6 (rfl : half0_sh pa pw pl pq pm pb a0_0 a0_1 a0_2 w8 U 6 = _) (by simp) (does_call hπ _ (false) rfl (by simp [half0_plan]) (calls_only (half0_cn pa pw pl pq pm pb a0_0 a0_1 a0_2 w8 U) (by simp [half0_plan])) rfl (fun γ L a w hH hA g hg hz => by have e1 := hH.at d7 (rfl : half0_sh pa pw pl pq pm pb a0_0 a0_1 a0_2 w8 U 7 = _) (hA ⟨7, .data⟩ (by simp) rfl); have e2 := hH.at d8 (rfl : half0_sh pa pw pl pq pm pb a0_0 a0_1 a0_2 w8 U 8 = _) (hA ⟨8, .data⟩ (by simp) rfl); have e3 := hH.at d9 (rfl : half0_sh pa pw pl pq pm pb a0_0 a0_1 a0_2 w8 U 9 = _) (hA ⟨9, .data⟩ (by simp) rfl); exact ⟨15, #[.pointer (some ⟨pw, 0, none⟩), .agg #[.int .i64 (4294967296), .int .i64 (0), .int .i64 (0), .int .i64 (0), .int .i64 (-4294967296), .int .i64 (0), .int .i64 (0), .int .i64 (0), .int .i64 (-4294967296)], .agg #[.int .i64 (a0_0), .int .i64 ((-a0_1)), .int .i64 ((-a0_2))]], by simp [go_sem, e1, e2, e3], (vturn_law pw 0 g (4294967296) (0) (0) (0) (-4294967296) (0) (0) (0) (-4294967296) (a0_0) ((-a0_1)) ((-a0_2)) w hg hz).mono (by rintro e W1 ⟨v0, v1, v2, g1, rfl, S, Z⟩; have h := S.out; rw [T0, T1, T2] at h; exact ⟨by rw [h.1, h.2.1, h.2.2.1]; rfl, g1, h.2.2.2, Z.out⟩)⟩))) ?_
          refine AllDo.cons 11 rfl (does_guarded rfl d6 (rfl : half0_sh pa pw pl pq pm pb a0_0 a0_1 a0_2 w8 U 6 = _) (by simp) (does_pure _ rfl rfl (fun γ L a w hH hA => by have e1 := R1 γ L a w hH; have e2 := hH.glob.fix (⟨pa, 0, none⟩, .int .i64 (a0_0)) (by simp [half0_plan]); have e3 := hH.glob.fix (⟨pa, 1, none⟩, .int .i64 (a0_1)) (by simp [half0_plan]); have e4 := hH.glob.fix (⟨pa, 2, none⟩, .int .i64 (a0_2)) (by simp [half0_plan]); simp [execOp, go_sem, e1, e2, e3, e4]))) ?_
          refine AllDo.cons 12 rfl (does_guarded rfl d6 (rfl : half0_sh pa pw pl pq pm pb a0_0 a0_1 a0_2 w8 U 6 = _) (by simp) (does_pure _ rfl rfl (fun γ L a w hH hA => by have e1 := hH.at d10 (rfl : half0_sh pa pw pl pq pm pb a0_0 a0_1 a0_2 w8 U 10 = _) (hA ⟨10, .data⟩ (by simp) rfl); have e2 := hH.at d11 (rfl : half0_sh pa pw pl pq pm pb a0_0 a0_1 a0_2 w8 U 11 = _) (hA ⟨11, .data⟩ (by simp) rfl); simp [execOp, go_sem, e1, e2]))) ?_
          refine AllDo.cons 13 rfl (does_pure _ rfl rfl (fun γ L a w hH hA => by have e1 := hH.at d6 (rfl : half0_sh pa pw pl pq pm pb a0_0 a0_1 a0_2 w8 U 6 = _) (hA ⟨6, .data⟩ (by simp) rfl); have e2 := hH.at d12 (rfl : half0_sh pa pw pl pq pm pb a0_0 a0_1 a0_2 w8 U 12 = _) (hA ⟨12, .data⟩ (by simp) rfl); simp [execOp, go_sem, e1, e2])) ?_
          refine AllDo.cons 14 rfl (does_pure _ rfl rfl (fun γ L a w hH hA => by have e1 := hH.at d13 (rfl : half0_sh pa pw pl pq pm pb a0_0 a0_1 a0_2 w8 U 13 = _) (hA ⟨13, .data⟩ (by simp) rfl); simp [execOp, go_sem, e1])) ?_
          refine AllDo.cons 15 rfl (does_guarded rfl d14 (rfl : half0_sh pa pw pl pq pm pb a0_0 a0_1 a0_2 w8 U 14 = _) (by simp) (does_pure _ rfl rfl (fun γ L a w hH hA => by have e1 := R5 γ L a w hH; simp [execOp, go_sem, e1]))) ?_
          refine AllDo.cons 16 rfl (does_guarded rfl d14 (rfl : half0_sh pa pw pl pq pm pb a0_0 a0_1 a0_2 w8 U 14 = _) (by simp) (does_pure _ rfl rfl (fun γ L a w hH hA => by have e1 := R9 γ L a w hH; have e2 := hH.glob.fix (⟨pm, 0, none⟩, .int .i64 (4294967296)) (by simp [half0_plan]); have e3 := hH.glob.fix (⟨pm, 1, none⟩, .int .i64 (0)) (by simp [half0_plan]); have e4 := hH.glob.fix (⟨pm, 2, none⟩, .int .i64 (0)) (by simp [half0_plan]); have e5 := hH.glob.fix (⟨pm, 3, none⟩, .int .i64 (0)) (by simp [half0_plan]); have e6 := hH.glob.fix (⟨pm, 4, none⟩, .int .i64 (-4294967296)) (by simp [half0_plan]); have e7 := hH.glob.fix (⟨pm, 5, none⟩, .int .i64 (0)) (by simp [half0_plan]); have e8 := hH.glob.fix (⟨pm, 6, none⟩, .int .i64 (0)) (by simp [half0_plan]); have e9 := hH.glob.fix (⟨pm, 7, none⟩, .int .i64 (0)) (by simp [half0_plan]); have e10 := hH.glob.fix (⟨pm, 8, none⟩, .int .i64 (-4294967296)) (by simp [half0_plan]); simp [execOp, go_sem, e1, e2, e3, e4, e5, e6, e7, e8, e9, e10]))) ?_
          refine AllDo.cons 17 rfl (does_guarded rfl d14 (rfl : half0_sh pa pw pl pq pm pb a0_0 a0_1 a0_2 w8 U 14 = _) (by simp) (does_pure _ rfl rfl (fun γ L a w hH hA => by have e1 := R10 γ L a w hH; have e2 := hH.glob.fix (⟨pb, 0, none⟩, .int .i64 (a0_0)) (by simp [half0_plan]); have e3 := hH.glob.fix (⟨pb, 1, none⟩, .int .i64 ((-a0_1))) (by simp [half0_plan]); have e4 := hH.glob.fix (⟨pb, 2, none⟩, .int .i64 ((-a0_2))) (by simp [half0_plan]); simp [execOp, go_sem, e1, e2, e3, e4]))) ?_
          refine AllDo.cons 18 rfl (does_guarded rfl d14 (rfl : half0_sh pa pw pl pq pm pb a0_0 a0_1 a0_2 w8 U 14 = _) (by simp) (does_call hπ _ (false) rfl (by simp [half0_plan]) (calls_only (half0_cn pa pw pl pq pm pb a0_0 a0_1 a0_2 w8 U) (by simp [half0_plan])) rfl (fun γ L a w hH hA g hg hz => by have e1 := hH.at d15 (rfl : half0_sh pa pw pl pq pm pb a0_0 a0_1 a0_2 w8 U 15 = _) (hA ⟨15, .data⟩ (by simp) rfl); have e2 := hH.at d16 (rfl : half0_sh pa pw pl pq pm pb a0_0 a0_1 a0_2 w8 U 16 = _) (hA ⟨16, .data⟩ (by simp) rfl); have e3 := hH.at d17 (rfl : half0_sh pa pw pl pq pm pb a0_0 a0_1 a0_2 w8 U 17 = _) (hA ⟨17, .data⟩ (by simp) rfl); exact ⟨14, #[.pointer (some ⟨pw, 0, none⟩), .agg #[.int .i64 (4294967296), .int .i64 (0), .int .i64 (0), .int .i64 (0), .int .i64 (-4294967296), .int .i64 (0), .int .i64 (0), .int .i64 (0), .int .i64 (-4294967296)], .agg #[.int .i64 (a0_0), .int .i64 ((-a0_1)), .int .i64 ((-a0_2))]], by simp [go_sem, e1, e2, e3], (vback_law pw 0 g (4294967296) (0) (0) (0) (-4294967296) (0) (0) (0) (-4294967296) (a0_0) ((-a0_1)) ((-a0_2)) w hg hz).mono (by rintro e W1 ⟨v0, v1, v2, g1, rfl, S, Z⟩; have h := S.out; rw [T0, T1, T2] at h; exact ⟨by rw [h.1, h.2.1, h.2.2.1]; rfl, g1, h.2.2.2, Z.out⟩)⟩))) ?_
          refine AllDo.cons 19 rfl (does_guarded rfl d14 (rfl : half0_sh pa pw pl pq pm pb a0_0 a0_1 a0_2 w8 U 14 = _) (by simp) (does_pure _ rfl rfl (fun γ L a w hH hA => by have e1 := R1 γ L a w hH; have e2 := hH.glob.fix (⟨pa, 0, none⟩, .int .i64 (a0_0)) (by simp [half0_plan]); have e3 := hH.glob.fix (⟨pa, 1, none⟩, .int .i64 (a0_1)) (by simp [half0_plan]); have e4 := hH.glob.fix (⟨pa, 2, none⟩, .int .i64 (a0_2)) (by simp [half0_plan]); simp [execOp, go_sem, e1, e2, e3, e4]))) ?_
          refine AllDo.cons 20 rfl (does_guarded rfl d14 (rfl : half0_sh pa pw pl pq pm pb a0_0 a0_1 a0_2 w8 U 14 = _) (by simp) (does_pure _ rfl rfl (fun γ L a w hH hA => by have e1 := hH.at d18 (rfl : half0_sh pa pw pl pq pm pb a0_0 a0_1 a0_2 w8 U 18 = _) (hA ⟨18, .data⟩ (by simp) rfl); have e2 := hH.at d19 (rfl : half0_sh pa pw pl pq pm pb a0_0 a0_1 a0_2 w8 U 19 = _) (hA ⟨19, .data⟩ (by simp) rfl); simp [execOp, go_sem, e1, e2]))) ?_
          refine AllDo.cons 21 rfl (does_pure _ rfl rfl (fun γ L a w hH hA => by have e1 := hH.at d14 (rfl : half0_sh pa pw pl pq pm pb a0_0 a0_1 a0_2 w8 U 14 = _) (hA ⟨14, .data⟩ (by simp) rfl); have e2 := hH.at d20 (rfl : half0_sh pa pw pl pq pm pb a0_0 a0_1 a0_2 w8 U 20 = _) (hA ⟨20, .data⟩ (by simp) rfl); simp [execOp, go_sem, e1, e2])) ?_
          exact AllDo.nil
        · intro γ a5 w5 L hL hLo hH
          have hL' : ∀ j, j < 22 → L j = true := fun j hj => hL j hj
          have ha := held_act hH hL (by kernel_rfl) (by kernel_rfl)
          have hG := hH.glob
          have hfl := hG.flagAll hπ (fun c hc => hL' c.1 (by simp only [half0_plan, List.mem_cons, List.not_mem_nil, or_false] at hc; rcases hc with rfl | rfl <;> simp))
          have c5 : w5.cell? ⟨pw, 0, none⟩ = some (.bool false) := hfl.1
          have f5 : w5.frozen? ⟨pw, 0, none⟩ = false := hfl.2
          have HB5 : Hid (Below w.heap.size w w5) := by
            have h : Leaves ⟨pw, 0, none⟩ w8 w5 := hG.leaves
            have h2 := h.below w8.heap.size w8 (Below.refl _ _) (by show _ ≤ pw; rw [HW8.out]; exact qw) (Nat.le_refl _)
            rw [HW8.out] at h2
            exact h2
          have yxa0 : w5.cell? ⟨pa, 0, none⟩ = some (.int .i64 a0_0) := hG.fix (⟨pa, 0, none⟩, .int .i64 (a0_0)) (by simp [half0_plan])
          have yxa1 : w5.cell? ⟨pa, 1, none⟩ = some (.int .i64 a0_1) := hG.fix (⟨pa, 1, none⟩, .int .i64 (a0_1)) (by simp [half0_plan])
          have yxa2 : w5.cell? ⟨pa, 2, none⟩ = some (.int .i64 a0_2) := hG.fix (⟨pa, 2, none⟩, .int .i64 (a0_2)) (by simp [half0_plan])
          have yxl0 : w5.cell? ⟨pl, 0, none⟩ = some (.int .i64 0) := hG.fix (⟨pl, 0, none⟩, .int .i64 (0)) (by simp [half0_plan])
          have yxl1 : w5.cell? ⟨pl, 1, none⟩ = some (.int .i64 4294967296) := hG.fix (⟨pl, 1, none⟩, .int .i64 (4294967296)) (by simp [half0_plan])
          have yxl2 : w5.cell? ⟨pl, 2, none⟩ = some (.int .i64 0) := hG.fix (⟨pl, 2, none⟩, .int .i64 (0)) (by simp [half0_plan])
          have yxl3 : w5.cell? ⟨pl, 3, none⟩ = some (.int .i64 0) := hG.fix (⟨pl, 3, none⟩, .int .i64 (0)) (by simp [half0_plan])
          have yxl4 : w5.cell? ⟨pl, 4, none⟩ = some (.int .i64 0) := hG.fix (⟨pl, 4, none⟩, .int .i64 (0)) (by simp [half0_plan])
          have yxl5 : w5.cell? ⟨pl, 5, none⟩ = some (.int .i64 0) := hG.fix (⟨pl, 5, none⟩, .int .i64 (0)) (by simp [half0_plan])
          have yxl6 : w5.cell? ⟨pl, 6, none⟩ = some (.int .i64 4294967296) := hG.fix (⟨pl, 6, none⟩, .int .i64 (4294967296)) (by simp [half0_plan])
          have yxl7 : w5.cell? ⟨pl, 7, none⟩ = some (.int .i64 0) := hG.fix (⟨pl, 7, none⟩, .int .i64 (0)) (by simp [half0_plan])
          have yxl8 : w5.cell? ⟨pl, 8, none⟩ = some (.int .i64 0) := hG.fix (⟨pl, 8, none⟩, .int .i64 (0)) (by simp [half0_plan])
          have yxl9 : w5.cell? ⟨pl, 9, none⟩ = some (.int .i64 0) := hG.fix (⟨pl, 9, none⟩, .int .i64 (0)) (by simp [half0_plan])
          have yxl10 : w5.cell? ⟨pl, 10, none⟩ = some (.int .i64 0) := hG.fix (⟨pl, 10, none⟩, .int .i64 (0)) (by simp [half0_plan])
          have yxl11 : w5.cell? ⟨pl, 11, none⟩ = some (.int .i64 4294967296) := hG.fix (⟨pl, 11, none⟩, .int .i64 (4294967296)) (by simp [half0_plan])
          have yxq0 : w5.cell? ⟨pq, 0, none⟩ = some (.int .i64 a0_0) := hG.fix (⟨pq, 0, none⟩, .int .i64 (a0_0)) (by simp [half0_plan])
          have yxq1 : w5.cell? ⟨pq, 1, none⟩ = some (.int .i64 (-a0_1)) := hG.fix (⟨pq, 1, none⟩, .int .i64 ((-a0_1))) (by simp [half0_plan])
          have yxq2 : w5.cell? ⟨pq, 2, none⟩ = some (.int .i64 (-a0_2)) := hG.fix (⟨pq, 2, none⟩, .int .i64 ((-a0_2))) (by simp [half0_plan])
          have yxq3 : w5.cell? ⟨pq, 3, none⟩ = some (.int .i64 (-a0_0)) := hG.fix (⟨pq, 3, none⟩, .int .i64 ((-a0_0))) (by simp [half0_plan])
          have yxq4 : w5.cell? ⟨pq, 4, none⟩ = some (.int .i64 a0_1) := hG.fix (⟨pq, 4, none⟩, .int .i64 (a0_1)) (by simp [half0_plan])
          have yxq5 : w5.cell? ⟨pq, 5, none⟩ = some (.int .i64 (-a0_2)) := hG.fix (⟨pq, 5, none⟩, .int .i64 ((-a0_2))) (by simp [half0_plan])
          have yxq6 : w5.cell? ⟨pq, 6, none⟩ = some (.int .i64 (-a0_0)) := hG.fix (⟨pq, 6, none⟩, .int .i64 ((-a0_0))) (by simp [half0_plan])
          have yxq7 : w5.cell? ⟨pq, 7, none⟩ = some (.int .i64 (-a0_1)) := hG.fix (⟨pq, 7, none⟩, .int .i64 ((-a0_1))) (by simp [half0_plan])
          have yxq8 : w5.cell? ⟨pq, 8, none⟩ = some (.int .i64 a0_2) := hG.fix (⟨pq, 8, none⟩, .int .i64 (a0_2)) (by simp [half0_plan])
          rw [ha]
          clear ha hH hG hL hL' hLo hπ hfl
          simp only [putAll, Act.put, List.setIfInBounds_toArray, List.set_cons_zero, List.set_cons_succ, shapeVal, Nat.zero_add, Nat.reduceAdd, half0_sh]
          go_wp2_with (fail)
          go_roundw
          case rel => exact ⟨1, by omega, by go_num, HB5.out, c5, f5, yxa0, yxa1, yxa2, yxl0, yxl1, yxl2, yxl3, yxl4, yxl5, yxl6, yxl7, yxl8, yxl9, yxl10, yxl11, yxq0, yxq1, yxq2, yxq3, yxq4, yxq5, yxq6, yxq7, yxq8⟩
          case measure => simp [intOf]
      | 1, _ =>
        have hk0 : rowsBad 0 0 4294967296 0 = false := by rfl
        have hv0 : (cond (rowsBad 0 0 4294967296 0) 0 (rowsAt0 0 0 4294967296 0)) = -4294967296 := by rfl
        have hv1 : (cond (rowsBad 0 0 4294967296 0) 0 (rowsAt1 0 0 4294967296 0)) = 0 := by rfl
        have hv2 : (cond (rowsBad 0 0 4294967296 0) 0 (rowsAt2 0 0 4294967296 0)) = 0 := by rfl
        have hv3 : (cond (rowsBad 0 0 4294967296 0) 0 (rowsAt3 0 0 4294967296 0)) = 0 := by rfl
        have hv4 : (cond (rowsBad 0 0 4294967296 0) 0 (rowsAt4 0 0 4294967296 0)) = 4294967296 := by rfl
        have hv5 : (cond (rowsBad 0 0 4294967296 0) 0 (rowsAt5 0 0 4294967296 0)) = 0 := by rfl
        have hv6 : (cond (rowsBad 0 0 4294967296 0) 0 (rowsAt6 0 0 4294967296 0)) = 0 := by rfl
        have hv7 : (cond (rowsBad 0 0 4294967296 0) 0 (rowsAt7 0 0 4294967296 0)) = 0 := by rfl
        have hv8 : (cond (rowsBad 0 0 4294967296 0) 0 (rowsAt8 0 0 4294967296 0)) = -4294967296 := by rfl
        have HV : Hid _ := And.intro hk0 (And.intro hv0 (And.intro hv1 (And.intro hv2 (And.intro hv3 (And.intro hv4 (And.intro hv5 (And.intro hv6 (And.intro hv7 hv8))))))))
        clear hk0 hv0 hv1 hv2 hv3 hv4 hv5 hv6 hv7 hv8
        go_wp2_with (fail)
        refine (vrows_law pw 0 false 0 0 4294967296 0 _ c f).mono ?_
        rintro e W1 ⟨rfl, Z⟩
        obtain ⟨hk0, hv0, hv1, hv2, hv3, hv4, hv5, hv6, hv7, hv8⟩ := HV.out
        rw [hv0, hv1, hv2, hv3, hv4, hv5, hv6, hv7, hv8]
        rw [hk0] at Z
        clear HV hk0 hv0 hv1 hv2 hv3 hv4 hv5 hv6 hv7 hv8
        have HB1 : Hid _ := Z.out.below _ _ HB.out qw HB.out.size
        have c1 := Z.out.cell
        have f1 := Z.out.frozen
        have axa0 := Z.out.cellOf xa0 (by show pa ≠ pw; omega)
        have axa1 := Z.out.cellOf xa1 (by show pa ≠ pw; omega)
        have axa2 := Z.out.cellOf xa2 (by show pa ≠ pw; omega)
        have axl0 := Z.out.cellOf xl0 (by show pl ≠ pw; omega)
        have axl1 := Z.out.cellOf xl1 (by show pl ≠ pw; omega)
        have axl2 := Z.out.cellOf xl2 (by show pl ≠ pw; omega)
        have axl3 := Z.out.cellOf xl3 (by show pl ≠ pw; omega)
        have axl4 := Z.out.cellOf xl4 (by show pl ≠ pw; omega)
        have axl5 := Z.out.cellOf xl5 (by show pl ≠ pw; omega)
        have axl6 := Z.out.cellOf xl6 (by show pl ≠ pw; omega)
        have axl7 := Z.out.cellOf xl7 (by show pl ≠ pw; omega)
        have axl8 := Z.out.cellOf xl8 (by show pl ≠ pw; omega)
        have axl9 := Z.out.cellOf xl9 (by show pl ≠ pw; omega)
        have axl10 := Z.out.cellOf xl10 (by show pl ≠ pw; omega)
        have axl11 := Z.out.cellOf xl11 (by show pl ≠ pw; omega)
        have axq0 := Z.out.cellOf xq0 (by show pq ≠ pw; omega)
        have axq1 := Z.out.cellOf xq1 (by show pq ≠ pw; omega)
        have axq2 := Z.out.cellOf xq2 (by show pq ≠ pw; omega)
        have axq3 := Z.out.cellOf xq3 (by show pq ≠ pw; omega)
        have axq4 := Z.out.cellOf xq4 (by show pq ≠ pw; omega)
        have axq5 := Z.out.cellOf xq5 (by show pq ≠ pw; omega)
        have axq6 := Z.out.cellOf xq6 (by show pq ≠ pw; omega)
        have axq7 := Z.out.cellOf xq7 (by show pq ≠ pw; omega)
        have axq8 := Z.out.cellOf xq8 (by show pq ≠ pw; omega)
        have q1 : pw < W1.heap.size := World.block_lt_of_cell? _ _ c1
        clear Z c f HB xa0 xa1 xa2 xl0 xl1 xl2 xl3 xl4 xl5 xl6 xl7 xl8 xl9 xl10 xl11 xq0 xq1 xq2 xq3 xq4 xq5 xq6 xq7 xq8
        obtain ⟨pm, hpm⟩ : ∃ p, p = W1.heap.size := ⟨_, rfl⟩
        have nb := new_after W1 (.cells #[.int .i64 (-4294967296), .int .i64 0, .int .i64 0, .int .i64 0, .int .i64 4294967296, .int .i64 0, .int .i64 0, .int .i64 0, .int .i64 (-4294967296)] 37)
        have HB2 : Hid _ := HB1.out.alloc HB1.out.size (.cells #[.int .i64 (-4294967296), .int .i64 0, .int .i64 0, .int .i64 0, .int .i64 4294967296, .int .i64 0, .int .i64 0, .int .i64 0, .int .i64 (-4294967296)] 37)
        have f2 := frozen_after nb c1 f1
        have c2 := cell_after nb c1
        have bxa0 := cell_after nb axa0
        have bxa1 := cell_after nb axa1
        have bxa2 := cell_after nb axa2
        have bxl0 := cell_after nb axl0
        have bxl1 := cell_after nb axl1
        have bxl2 := cell_after nb axl2
        have bxl3 := cell_after nb axl3
        have bxl4 := cell_after nb axl4
        have bxl5 := cell_after nb axl5
        have bxl6 := cell_after nb axl6
        have bxl7 := cell_after nb axl7
        have bxl8 := cell_after nb axl8
        have bxl9 := cell_after nb axl9
        have bxl10 := cell_after nb axl10
        have bxl11 := cell_after nb axl11
        have bxq0 := cell_after nb axq0
        have bxq1 := cell_after nb axq1
        have bxq2 := cell_after nb axq2
        have bxq3 := cell_after nb axq3
        have bxq4 := cell_after nb axq4
        have bxq5 := cell_after nb axq5
        have bxq6 := cell_after nb axq6
        have bxq7 := cell_after nb axq7
        have bxq8 := cell_after nb axq8
        have bm0 : (W1.alloc (.cells #[.int .i64 (-4294967296), .int .i64 0, .int .i64 0, .int .i64 0, .int .i64 4294967296, .int .i64 0, .int .i64 0, .int .i64 0, .int .i64 (-4294967296)] 37)).cell? ⟨pm, 0, none⟩ = some (.int .i64 (-4294967296)) := by rw [hpm]; simp
        have bm1 : (W1.alloc (.cells #[.int .i64 (-4294967296), .int .i64 0, .int .i64 0, .int .i64 0, .int .i64 4294967296, .int .i64 0, .int .i64 0, .int .i64 0, .int .i64 (-4294967296)] 37)).cell? ⟨pm, 1, none⟩ = some (.int .i64 0) := by rw [hpm]; simp
        have bm2 : (W1.alloc (.cells #[.int .i64 (-4294967296), .int .i64 0, .int .i64 0, .int .i64 0, .int .i64 4294967296, .int .i64 0, .int .i64 0, .int .i64 0, .int .i64 (-4294967296)] 37)).cell? ⟨pm, 2, none⟩ = some (.int .i64 0) := by rw [hpm]; simp
        have bm3 : (W1.alloc (.cells #[.int .i64 (-4294967296), .int .i64 0, .int .i64 0, .int .i64 0, .int .i64 4294967296, .int .i64 0, .int .i64 0, .int .i64 0, .int .i64 (-4294967296)] 37)).cell? ⟨pm, 3, none⟩ = some (.int .i64 0) := by rw [hpm]; simp
        have bm4 : (W1.alloc (.cells #[.int .i64 (-4294967296), .int .i64 0, .int .i64 0, .int .i64 0, .int .i64 4294967296, .int .i64 0, .int .i64 0, .int .i64 0, .int .i64 (-4294967296)] 37)).cell? ⟨pm, 4, none⟩ = some (.int .i64 4294967296) := by rw [hpm]; simp
        have bm5 : (W1.alloc (.cells #[.int .i64 (-4294967296), .int .i64 0, .int .i64 0, .int .i64 0, .int .i64 4294967296, .int .i64 0, .int .i64 0, .int .i64 0, .int .i64 (-4294967296)] 37)).cell? ⟨pm, 5, none⟩ = some (.int .i64 0) := by rw [hpm]; simp
        have bm6 : (W1.alloc (.cells #[.int .i64 (-4294967296), .int .i64 0, .int .i64 0, .int .i64 0, .int .i64 4294967296, .int .i64 0, .int .i64 0, .int .i64 0, .int .i64 (-4294967296)] 37)).cell? ⟨pm, 6, none⟩ = some (.int .i64 0) := by rw [hpm]; simp
        have bm7 : (W1.alloc (.cells #[.int .i64 (-4294967296), .int .i64 0, .int .i64 0, .int .i64 0, .int .i64 4294967296, .int .i64 0, .int .i64 0, .int .i64 0, .int .i64 (-4294967296)] 37)).cell? ⟨pm, 7, none⟩ = some (.int .i64 0) := by rw [hpm]; simp
        have bm8 : (W1.alloc (.cells #[.int .i64 (-4294967296), .int .i64 0, .int .i64 0, .int .i64 0, .int .i64 4294967296, .int .i64 0, .int .i64 0, .int .i64 0, .int .i64 (-4294967296)] 37)).cell? ⟨pm, 8, none⟩ = some (.int .i64 (-4294967296)) := by rw [hpm]; simp
        have qm : pw < pm := by omega
        clear nb c1 f1 HB1 axa0 axa1 axa2 axl0 axl1 axl2 axl3 axl4 axl5 axl6 axl7 axl8 axl9 axl10 axl11 axq0 axq1 axq2 axq3 axq4 axq5 axq6 axq7 axq8
        go_wp2_with (fail)
        rw [← hpm]
        refine (vturn_law pw 0 false (-4294967296) 0 0 0 4294967296 0 0 0 (-4294967296) a0_0 a0_1 a0_2 _ c2 f2).mono ?_
        rintro e W2 ⟨v0, v1, v2, g, rfl, S, Z⟩
        obtain ⟨rfl, rfl, rfl, rfl⟩ : (-a0_0) = v0 ∧ a0_1 = v1 ∧ (-a0_2) = v2 ∧ false = g := by
          have h := S.out
          rw [dg0n hX hY hZ, dg1p hX hY hZ, dg2n hX hY hZ] at h
          have h2 : v0 = (-a0_0) ∧ v1 = a0_1 ∧ v2 = (-a0_2) ∧ g = false := h
          exact ⟨h2.1.symm, h2.2.1.symm, h2.2.2.1.symm, h2.2.2.2.symm⟩
        have HB3 : Hid _ := Z.out.below _ _ HB2.out qw HB2.out.size
        have c3 := Z.out.cell
        have f3 := Z.out.frozen
        have dxa0 := Z.out.cellOf bxa0 (by show pa ≠ pw; omega)
        have dxa1 := Z.out.cellOf bxa1 (by show pa ≠ pw; omega)
        have dxa2 := Z.out.cellOf bxa2 (by show pa ≠ pw; omega)
        have dxl0 := Z.out.cellOf bxl0 (by show pl ≠ pw; omega)
        have dxl1 := Z.out.cellOf bxl1 (by show pl ≠ pw; omega)
        have dxl2 := Z.out.cellOf bxl2 (by show pl ≠ pw; omega)
        have dxl3 := Z.out.cellOf bxl3 (by show pl ≠ pw; omega)
        have dxl4 := Z.out.cellOf bxl4 (by show pl ≠ pw; omega)
        have dxl5 := Z.out.cellOf bxl5 (by show pl ≠ pw; omega)
        have dxl6 := Z.out.cellOf bxl6 (by show pl ≠ pw; omega)
        have dxl7 := Z.out.cellOf bxl7 (by show pl ≠ pw; omega)
        have dxl8 := Z.out.cellOf bxl8 (by show pl ≠ pw; omega)
        have dxl9 := Z.out.cellOf bxl9 (by show pl ≠ pw; omega)
        have dxl10 := Z.out.cellOf bxl10 (by show pl ≠ pw; omega)
        have dxl11 := Z.out.cellOf bxl11 (by show pl ≠ pw; omega)
        have dxq0 := Z.out.cellOf bxq0 (by show pq ≠ pw; omega)
        have dxq1 := Z.out.cellOf bxq1 (by show pq ≠ pw; omega)
        have dxq2 := Z.out.cellOf bxq2 (by show pq ≠ pw; omega)
        have dxq3 := Z.out.cellOf bxq3 (by show pq ≠ pw; omega)
        have dxq4 := Z.out.cellOf bxq4 (by show pq ≠ pw; omega)
        have dxq5 := Z.out.cellOf bxq5 (by show pq ≠ pw; omega)
        have dxq6 := Z.out.cellOf bxq6 (by show pq ≠ pw; omega)
        have dxq7 := Z.out.cellOf bxq7 (by show pq ≠ pw; omega)
        have dxq8 := Z.out.cellOf bxq8 (by show pq ≠ pw; omega)
        have dm0 := Z.out.cellOf bm0 (by show pm ≠ pw; omega)
        have dm1 := Z.out.cellOf bm1 (by show pm ≠ pw; omega)
        have dm2 := Z.out.cellOf bm2 (by show pm ≠ pw; omega)
        have dm3 := Z.out.cellOf bm3 (by show pm ≠ pw; omega)
        have dm4 := Z.out.cellOf bm4 (by show pm ≠ pw; omega)
        have dm5 := Z.out.cellOf bm5 (by show pm ≠ pw; omega)
        have dm6 := Z.out.cellOf bm6 (by show pm ≠ pw; omega)
        have dm7 := Z.out.cellOf bm7 (by show pm ≠ pw; omega)
        have dm8 := Z.out.cellOf bm8 (by show pm ≠ pw; omega)
        clear Z S c2 f2 HB2 hpm bxa0 bxa1 bxa2 bxl0 bxl1 bxl2 bxl3 bxl4 bxl5 bxl6 bxl7 bxl8 bxl9 bxl10 bxl11 bxq0 bxq1 bxq2 bxq3 bxq4 bxq5 bxq6 bxq7 bxq8 bm0 bm1 bm2 bm3 bm4 bm5 bm6 bm7 bm8
        have q2 : pm < W2.heap.size := World.block_lt_of_cell? _ _ dm0
        obtain ⟨pb, hpb⟩ : ∃ p, p = W2.heap.size := ⟨_, rfl⟩
        have nb := new_after W2 (.cells #[.int .i64 (-a0_0), .int .i64 a0_1, .int .i64 (-a0_2)] 23)
        have HB4 : Hid _ := HB3.out.alloc HB3.out.size (.cells #[.int .i64 (-a0_0), .int .i64 a0_1, .int .i64 (-a0_2)] 23)
        have f := frozen_after nb c3 f3
        have c := cell_after nb c3
        have xa0 := cell_after nb dxa0
        have xa1 := cell_after nb dxa1
        have xa2 := cell_after nb dxa2
        have xl0 := cell_after nb dxl0
        have xl1 := cell_after nb dxl1
        have xl2 := cell_after nb dxl2
        have xl3 := cell_after nb dxl3
        have xl4 := cell_after nb dxl4
        have xl5 := cell_after nb dxl5
        have xl6 := cell_after nb dxl6
        have xl7 := cell_after nb dxl7
        have xl8 := cell_after nb dxl8
        have xl9 := cell_after nb dxl9
        have xl10 := cell_after nb dxl10
        have xl11 := cell_after nb dxl11
        have xq0 := cell_after nb dxq0
        have xq1 := cell_after nb dxq1
        have xq2 := cell_after nb dxq2
        have xq3 := cell_after nb dxq3
        have xq4 := cell_after nb dxq4
        have xq5 := cell_after nb dxq5
        have xq6 := cell_after nb dxq6
        have xq7 := cell_after nb dxq7
        have xq8 := cell_after nb dxq8
        have em0 := cell_after nb dm0
        have em1 := cell_after nb dm1
        have em2 := cell_after nb dm2
        have em3 := cell_after nb dm3
        have em4 := cell_after nb dm4
        have em5 := cell_after nb dm5
        have em6 := cell_after nb dm6
        have em7 := cell_after nb dm7
        have em8 := cell_after nb dm8
        have eb0 : (W2.alloc (.cells #[.int .i64 (-a0_0), .int .i64 a0_1, .int .i64 (-a0_2)] 23)).cell? ⟨pb, 0, none⟩ = some (.int .i64 (-a0_0)) := by rw [hpb]; simp
        have eb1 : (W2.alloc (.cells #[.int .i64 (-a0_0), .int .i64 a0_1, .int .i64 (-a0_2)] 23)).cell? ⟨pb, 1, none⟩ = some (.int .i64 a0_1) := by rw [hpb]; simp
        have eb2 : (W2.alloc (.cells #[.int .i64 (-a0_0), .int .i64 a0_1, .int .i64 (-a0_2)] 23)).cell? ⟨pb, 2, none⟩ = some (.int .i64 (-a0_2)) := by rw [hpb]; simp
        clear nb c3 f3 HB3 dxa0 dxa1 dxa2 dxl0 dxl1 dxl2 dxl3 dxl4 dxl5 dxl6 dxl7 dxl8 dxl9 dxl10 dxl11 dxq0 dxq1 dxq2 dxq3 dxq4 dxq5 dxq6 dxq7 dxq8 dm0 dm1 dm2 dm3 dm4 dm5 dm6 dm7 dm8
        have hXb : -1152921504606846976 ≤ (-a0_0) ∧ (-a0_0) ≤ 1152921504606846976 := by omega
        have hYb : -1152921504606846976 ≤ a0_1 ∧ a0_1 ≤ 1152921504606846976 := by omega
        have hZb : -1152921504606846976 ≤ (-a0_2) ∧ (-a0_2) ≤ 1152921504606846976 := by omega
        have T0 := dg0n hXb hYb hZb
        have T1 := dg1p hXb hYb hZb
        have T2 := dg2n hXb hYb hZb
        simp only [Int.neg_neg] at T0 T1 T2
        have HT : Hid _ := And.intro T0 (And.intro T1 T2)
        clear T0 T1 T2
        go_wp2_with (fail)
        rw [← hpb]
        obtain ⟨U, hU⟩ : ∃ U, U = W2.alloc (.cells #[.int .i64 (-a0_0), .int .i64 a0_1, .int .i64 (-a0_2)] 23) := ⟨_, rfl⟩
        rw [← hU] at c f HB4 xa0 xa1 xa2 xl0 xl1 xl2 xl3 xl4 xl5 xl6 xl7 xl8 xl9 xl10 xl11 xq0 xq1 xq2 xq3 xq4 xq5 xq6 xq7 xq8 em0 em1 em2 em3 em4 em5 em6 em7 em8 eb0 eb1 eb2
        rw [← hU]
        have qU : pb < U.heap.size := by rw [hU, hpb]; simp
        have qmb : pm < pb := by omega
        have qUl : pl < U.heap.size := World.block_lt_of_cell? _ _ xl0
        have qUq : pq < U.heap.size := World.block_lt_of_cell? _ _ xq0
        clear hU hpb
        obtain ⟨w8, hw8⟩ : ∃ x : World, x = w := ⟨_, rfl⟩
        have HL : Hid (Leaves ⟨pw, 0, none⟩ w8 U) := by show Leaves _ _ _; rw [hw8]; exact leaves_of HB4.out
        have q8 : w8.heap.size ≤ U.heap.size := by rw [hw8]; exact HB4.out.size
        have HW8 : Hid _ := hw8
        clear hw8 HB4
        obtain ⟨T0, T1, T2⟩ := HT.out

        have hπ : (half1_plan pa pw pl pq pm pb a0_0 a0_1 a0_2 w8 U).Good := by
          refine ⟨?_, Or.inl rfl, Or.inl rfl, ?_, Or.inl rfl, ?_, (half1_bads pa pw pl pq pm pb a0_0 a0_1 a0_2 w8 U).1, (half1_bads pa pw pl pq pm pb a0_0 a0_1 a0_2 w8 U).2⟩
          · show w8.heap.size ≤ U.heap.size; omega
          · show pw < U.heap.size; omega
          · intro c hc
            simp only [half1_plan, List.mem_cons, List.not_mem_nil, or_false] at hc
            rcases hc with rfl | rfl | rfl | rfl | rfl | rfl | rfl | rfl | rfl | rfl | rfl | rfl | rfl | rfl | rfl | rfl | rfl | rfl | rfl | rfl | rfl | rfl | rfl | rfl | rfl | rfl | rfl | rfl | rfl | rfl | rfl | rfl | rfl | rfl | rfl | rfl <;> (show _ < U.heap.size ∧ _ ≠ pw ∧ _ ≠ pw) <;> (dsimp only) <;> omega
        refine region_by (shapeVal (half1_sh pa pw pl pq pm pb a0_0 a0_1 a0_2 w8 U)) (Glob (half1_plan pa pw pl pq pm pb a0_0 a0_1 a0_2 w8 U)) (by kernel_rfl) (by kernel_rfl) (by kernel_rfl) (by kernel_rfl) (fun _ => 0) ?_ ?_ ?_
        · refine ⟨?_, ?_, ?_, ?_, ?_, ?_, (fun _ _ h => by cases h), (fun _ _ _ _ h => by cases h)⟩
          · exact HL.out.drew
          · exact Nat.le_refl _
          · exact ⟨false, c, f, fun h => (by cases h), fun h => h, fun _ _ h => by cases h⟩
          · exact Or.inl rfl
          · exact ⟨[], rfl, fun k v hk => by simp at hk, fun h => by cases h⟩
          · intro x hx
            simp only [half1_plan, List.mem_cons, List.not_mem_nil, or_false] at hx
            rcases hx with rfl | rfl | rfl | rfl | rfl | rfl | rfl | rfl | rfl | rfl | rfl | rfl | rfl | rfl | rfl | rfl | rfl | rfl | rfl | rfl | rfl | rfl | rfl | rfl | rfl | rfl | rfl | rfl | rfl | rfl | rfl | rfl | rfl | rfl | rfl | rfl <;> assumption
        · generalize hD : dstOf _ = D
          generalize hA : waitsFor _ = A
          generalize hZ : Act.mk _ _ = Z
          have d0 : D 0 = some 65 := by rw [← hD]; rfl
          have d1 : D 1 = some 66 := by rw [← hD]; rfl
          have d2 : D 2 = some 67 := by rw [← hD]; rfl
          have d3 : D 3 = some 68 := by rw [← hD]; rfl
          have d4 : D 4 = some 69 := by rw [← hD]; rfl
          have d5 : D 5 = some 70 := by rw [← hD]; rfl
          have d6 : D 6 = some 71 := by rw [← hD]; rfl
          have d7 : D 7 = some 72 := by rw [← hD]; rfl
          have d8 : D 8 = some 73 := by rw [← hD]; rfl
          have d9 : D 9 = some 74 := by rw [← hD]; rfl
          have d10 : D 10 = some 75 := by rw [← hD]; rfl
          have d11 : D 11 = some 76 := by rw [← hD]; rfl
          have d12 : D 12 = some 77 := by rw [← hD]; rfl
          have d13 : D 13 = some 78 := by rw [← hD]; rfl
          have d14 : D 14 = some 79 := by rw [← hD]; rfl
          have d15 : D 15 = some 80 := by rw [← hD]; rfl
          have d16 : D 16 = some 81 := by rw [← hD]; rfl
          have d17 : D 17 = some 82 := by rw [← hD]; rfl
          have d18 : D 18 = some 83 := by rw [← hD]; rfl
          have d19 : D 19 = some 84 := by rw [← hD]; rfl
          have d20 : D 20 = some 85 := by rw [← hD]; rfl
          have d21 : D 21 = some 86 := by rw [← hD]; rfl
          have R1 : ∀ (γ : Nat → Nat) (L : Nat → Bool) (a : Act) (w : World), Held D A (shapeVal (half1_sh pa pw pl pq pm pb a0_0 a0_1 a0_2 w8 U)) (Glob (half1_plan pa pw pl pq pm pb a0_0 a0_1 a0_2 w8 U)) Z γ L a w → a.tmps[1]? = some (.pointer (some ⟨pa, 0, none⟩)) := fun γ L a w hH => (hH.rest 1 (by rw [← hD]; exact dst_free (by kernel_rfl))).trans (by rw [← hZ]; rfl)
          have R5 : ∀ (γ : Nat → Nat) (L : Nat → Bool) (a : Act) (w : World), Held D A (shapeVal (half1_sh pa pw pl pq pm pb a0_0 a0_1 a0_2 w8 U)) (Glob (half1_plan pa pw pl pq pm pb a0_0 a0_1 a0_2 w8 U)) Z γ L a w → a.tmps[5]? = some (.pointer (some ⟨pw, 0, none⟩)) := fun γ L a w hH => (hH.rest 5 (by rw [← hD]; exact dst_free (by kernel_rfl))).trans (by rw [← hZ]; rfl)
          have R7 : ∀ (γ : Nat → Nat) (L : Nat → Bool) (a : Act) (w : World), Held D A (shapeVal (half1_sh pa pw pl pq pm pb a0_0 a0_1 a0_2 w8 U)) (Glob (half1_plan pa pw pl pq pm pb a0_0 a0_1 a0_2 w8 U)) Z γ L a w → a.tmps[7]? = some (.slice (some ⟨pq, 0, none⟩) 3 3) := fun γ L a w hH => (hH.rest 7 (by rw [← hD]; exact dst_free (by kernel_rfl))).trans (by rw [← hZ]; rfl)
          have R8 : ∀ (γ : Nat → Nat) (L : Nat → Bool) (a : Act) (w : World), Held D A (shapeVal (half1_sh pa pw pl pq pm pb a0_0 a0_1 a0_2 w8 U)) (Glob (half1_plan pa pw pl pq pm pb a0_0 a0_1 a0_2 w8 U)) Z γ L a w → a.tmps[8]? = some (.int .i64 (1)) := fun γ L a w hH => (hH.rest 8 (by rw [← hD]; exact dst_free (by kernel_rfl))).trans (by rw [← hZ]; rfl)
          have R9 : ∀ (γ : Nat → Nat) (L : Nat → Bool) (a : Act) (w : World), Held D A (shapeVal (half1_sh pa pw pl pq pm pb a0_0 a0_1 a0_2 w8 U)) (Glob (half1_plan pa pw pl pq pm pb a0_0 a0_1 a0_2 w8 U)) Z γ L a w → a.tmps[9]? = some (.pointer (some ⟨pm, 0, none⟩)) := fun γ L a w hH => (hH.rest 9 (by rw [← hD]; exact dst_free (by kernel_rfl))).trans (by rw [← hZ]; rfl)
          have R10 : ∀ (γ : Nat → Nat) (L : Nat → Bool) (a : Act) (w : World), Held D A (shapeVal (half1_sh pa pw pl pq pm pb a0_0 a0_1 a0_2 w8 U)) (Glob (half1_plan pa pw pl pq pm pb a0_0 a0_1 a0_2 w8 U)) Z γ L a w → a.tmps[10]? = some (.pointer (some ⟨pb, 0, none⟩)) := fun γ L a w hH => (hH.rest 10 (by rw [← hD]; exact dst_free (by kernel_rfl))).trans (by rw [← hZ]; rfl)

          clear hD hA hZ
          refine AllDo.cons 0 rfl (does_pure _ rfl rfl (fun γ L a w hH hA => by have e1 := R10 γ L a w hH; have e2 := hH.glob.fix (⟨pb, 0, none⟩, .int .i64 ((-a0_0))) (by simp [half1_plan]); have e3 := hH.glob.fix (⟨pb, 1, none⟩, .int .i64 (a0_1)) (by simp [half1_plan]); have e4 := hH.glob.fix (⟨pb, 2, none⟩, .int .i64 ((-a0_2))) (by simp [half1_plan]); simp [execOp, go_sem, e1, e2, e3, e4])) ?_
          refine AllDo.cons 1 rfl (does_pure _ rfl rfl (fun γ L a w hH hA => by have e1 := R7 γ L a w hH; simp [execOp, go_sem, e1])) ?_
          refine AllDo.cons 2 rfl (does_pure _ rfl rfl (fun γ L a w hH hA => by have e1 := R8 γ L a w hH; simp [execOp, go_sem, e1])) ?_
          refine AllDo.cons 3 rfl (does_pure _ rfl rfl (fun γ L a w hH hA => by have e1 := hH.at d1 (rfl : half1_sh pa pw pl pq pm pb a0_0 a0_1 a0_2 w8 U 1 = _) (hA ⟨1, .data⟩ (by simp) rfl); have e2 := hH.at d2 (rfl : half1_sh pa pw pl pq pm pb a0_0 a0_1 a0_2 w8 U 2 = _) (hA ⟨2, .data⟩ (by simp) rfl); simp [execOp, go_sem, e1, e2])) ?_
          refine AllDo.cons 4 rfl (does_pure _ rfl rfl (fun γ L a w hH hA => by have e1 := hH.at d3 (rfl : half1_sh pa pw pl pq pm pb a0_0 a0_1 a0_2 w8 U 3 = _) (hA ⟨3, .data⟩ (by simp) rfl); have e2 := hH.glob.fix (⟨pq, 3, none⟩, .int .i64 ((-a0_0))) (by simp [half1_plan]); have e3 := hH.glob.fix (⟨pq, 4, none⟩, .int .i64 (a0_1)) (by simp [half1_plan]); have e4 := hH.glob.fix (⟨pq, 5, none⟩, .int .i64 ((-a0_2))) (by simp [half1_plan]); simp [execOp, go_sem, e1, e2, e3, e4])) ?_
          refine AllDo.cons 5 rfl (does_pure _ rfl rfl (fun γ L a w hH hA => by have e1 := hH.at d0 (rfl : half1_sh pa pw pl pq pm pb a0_0 a0_1 a0_2 w8 U 0 = _) (hA ⟨0, .data⟩ (by simp) rfl); have e2 := hH.at d4 (rfl : half1_sh pa pw pl pq pm pb a0_0 a0_1 a0_2 w8 U 4 = _) (hA ⟨4, .data⟩ (by simp) rfl); simp [execOp, go_sem, e1, e2])) ?_
          refine AllDo.cons 6 rfl (does_pure _ rfl rfl (fun γ L a w hH hA => by have e1 := hH.at d5 (rfl : half1_sh pa pw pl pq pm pb a0_0 a0_1 a0_2 w8 U 5 = _) (hA ⟨5, .data⟩ (by simp) rfl); simp [execOp, go_sem, e1])) ?_
          refine AllDo.cons 7 rfl (does_guarded rfl d6 (rfl : half1_sh pa pw pl pq pm pb a0_0 a0_1 a0_2 w8 U 6 = _) (by simp) (does_pure _ rfl rfl (fun γ L a w hH hA => by have e1 := R5 γ L a w hH; simp [execOp, go_sem, e1]))) ?_
          refine AllDo.cons 8 rfl (does_guarded rfl d6 (rfl : half1_sh pa pw pl pq pm pb a0_0 a0_1 a0_2 w8 U 6 = _) (by simp) (does_pure _ rfl rfl (fun γ L a w hH hA => by have e1 := R9 γ L a w hH; have e2 := hH.glob.fix (⟨pm, 0, none⟩, .int .i64 (-4294967296)) (by simp [half1_plan]); have e3 := hH.glob.fix (⟨pm, 1, none⟩, .int .i64 (0)) (by simp [half1_plan]); have e4 := hH.glob.fix (⟨pm, 2, none⟩, .int .i64 (0)) (by simp [half1_plan]); have e5 := hH.glob.fix (⟨pm, 3, none⟩, .int .i64 (0)) (by simp [half1_plan]); have e6 := hH.glob.fix (⟨pm, 4, none⟩, .int .i64 (4294967296)) (by simp [half1_plan]); have e7 := hH.glob.fix (⟨pm, 5, none⟩, .int .i64 (0)) (by simp [half1_plan]); have e8 := hH.glob.fix (⟨pm, 6, none⟩, .int .i64 (0)) (by simp [half1_plan]); have e9 := hH.glob.fix (⟨pm, 7, none⟩, .int .i64 (0)) (by simp [half1_plan]); have e10 := hH.glob.fix (⟨pm, 8, none⟩, .int .i64 (-4294967296)) (by simp [half1_plan]); simp [execOp, go_sem, e1, e2, e3, e4, e5, e6, e7, e8, e9, e10]))) ?_
          refine AllDo.cons 9 rfl (does_guarded rfl d6 (rfl : half1_sh pa pw pl pq pm pb a0_0 a0_1 a0_2 w8 U 6 = _) (by simp) (does_pure _ rfl rfl (fun γ L a w hH hA => by have e1 := R10 γ L a w hH; have e2 := hH.glob.fix (⟨pb, 0, none⟩, .int .i64 ((-a0_0))) (by simp [half1_plan]); have e3 := hH.glob.fix (⟨pb, 1, none⟩, .int .i64 (a0_1)) (by simp [half1_plan]); have e4 := hH.glob.fix (⟨pb, 2, none⟩, .int .i64 ((-a0_2))) (by simp [half1_plan]); simp [execOp, go_sem, e1, e2, e3, e4]))) ?_
          refine AllDo.cons 10 rfl (does_guarded rfl d6 (rfl : half1_sh pa pw pl pq pm pb a0_0 a0_1 a0_2 w8 U 6 = _) (by simp) (does_call hπ _ (false) rfl (by simp [half1_plan]) (calls_only (half1_cn pa pw pl pq pm pb a0_0 a0_1 a0_2 w8 U) (by simp [half1_plan])) rfl (fun γ L a w hH hA g hg hz => by have e1 := hH.at d7 (rfl : half1_sh pa pw pl pq pm pb a0_0 a0_1 a0_2 w8 U 7 = _) (hA ⟨7, .data⟩ (by simp) rfl); have e2 := hH.at d8 (rfl : half1_sh pa pw pl pq pm pb a0_0 a0_1 a0_2 w8 U 8 = _) (hA ⟨8, .data⟩ (by simp) rfl); have e3 := hH.at d9 (rfl : half1_sh pa pw pl pq pm pb a0_0 a0_1 a0_2 w8 U 9 = _) (hA ⟨9, .data⟩ (by simp) rfl); exact ⟨15, #[.pointer (some ⟨pw, 0, none⟩), .agg #[.int .i64 (-4294967296), .int .i64 (0), .int .i64 (0), .int .i64 (0), .int .i64 (4294967296), .int .i64 (0), .int .i64 (0), .int .i64 (0), .int .i64 (-4294967296)], .agg #[.int .i64 ((-a0_0)), .int .i64 (a0_1), .int .i64 ((-a0_2))]], by simp [go_sem, e1, e2, e3], (vturn_law pw 0 g (-4294967296) (0) (0) (0) (4294967296) (0) (0) (0) (-4294967296) ((-a0_0)) (a0_1) ((-a0_2)) w hg hz).mono (by rintro e W1 ⟨v0, v1, v2, g1, rfl, S, Z⟩; have h := S.out; rw [T0, T1, T2] at h; exact ⟨by rw [h.1, h.2.1, h.2.2.1]; rfl, g1, h.2.2.2, Z.out⟩)⟩))) ?_
          refine AllDo.cons 11 rfl (does_guarded rfl d6 (rfl : half1_sh pa pw pl pq pm pb a0_0 a0_1 a0_2 w8 U 6 = _) (by simp) (does_pure _ rfl rfl (fun γ L a w hH hA => by have e1 := R1 γ L a w hH; have e2 := hH.glob.fix (⟨pa, 0, none⟩, .int .i64 (a0_0)) (by simp [half1_plan]); have e3 := hH.glob.fix (⟨pa, 1, none⟩, .int .i64 (a0_1)) (by simp [half1_plan]); have e4 := hH.glob.fix (⟨pa, 2, none⟩, .int .i64 (a0_2)) (by simp [half1_plan]); simp [execOp, go_sem, e1, e2, e3, e4]))) ?_
          refine AllDo.cons 12 rfl (does_guarded rfl d6 (rfl : half1_sh pa pw pl pq pm pb a0_0 a0_1 a0_2 w8 U 6 = _) (by simp) (does_pure _ rfl rfl (fun γ L a w hH hA => by have e1 := hH.at d10 (rfl : half1_sh pa pw pl pq pm pb a0_0 a0_1 a0_2 w8 U 10 = _) (hA ⟨10, .data⟩ (by simp) rfl); have e2 := hH.at d11 (rfl : half1_sh pa pw pl pq pm pb a0_0 a0_1 a0_2 w8 U 11 = _) (hA ⟨11, .data⟩ (by simp) rfl); simp [execOp, go_sem, e1, e2]))) ?_
          refine AllDo.cons 13 rfl (does_pure _ rfl rfl (fun γ L a w hH hA => by have e1 := hH.at d6 (rfl : half1_sh pa pw pl pq pm pb a0_0 a0_1 a0_2 w8 U 6 = _) (hA ⟨6, .data⟩ (by simp) rfl); have e2 := hH.at d12 (rfl : half1_sh pa pw pl pq pm pb a0_0 a0_1 a0_2 w8 U 12 = _) (hA ⟨12, .data⟩ (by simp) rfl); simp [execOp, go_sem, e1, e2])) ?_
          refine AllDo.cons 14 rfl (does_pure _ rfl rfl (fun γ L a w hH hA => by have e1 := hH.at d13 (rfl : half1_sh pa pw pl pq pm pb a0_0 a0_1 a0_2 w8 U 13 = _) (hA ⟨13, .data⟩ (by simp) rfl); simp [execOp, go_sem, e1])) ?_
          refine AllDo.cons 15 rfl (does_guarded rfl d14 (rfl : half1_sh pa pw pl pq pm pb a0_0 a0_1 a0_2 w8 U 14 = _) (by simp) (does_pure _ rfl rfl (fun γ L a w hH hA => by have e1 := R5 γ L a w hH; simp [execOp, go_sem, e1]))) ?_
          refine AllDo.cons 16 rfl (does_guarded rfl d14 (rfl : half1_sh pa pw pl pq pm pb a0_0 a0_1 a0_2 w8 U 14 = _) (by simp) (does_pure _ rfl rfl (fun γ L a w hH hA => by have e1 := R9 γ L a w hH; have e2 := hH.glob.fix (⟨pm, 0, none⟩, .int .i64 (-4294967296)) (by simp [half1_plan]); have e3 := hH.glob.fix (⟨pm, 1, none⟩, .int .i64 (0)) (by simp [half1_plan]); have e4 := hH.glob.fix (⟨pm, 2, none⟩, .int .i64 (0)) (by simp [half1_plan]); have e5 := hH.glob.fix (⟨pm, 3, none⟩, .int .i64 (0)) (by simp [half1_plan]); have e6 := hH.glob.fix (⟨pm, 4, none⟩, .int .i64 (4294967296)) (by simp [half1_plan]); have e7 := hH.glob.fix (⟨pm, 5, none⟩, .int .i64 (0)) (by simp [half1_plan]); have e8 := hH.glob.fix (⟨pm, 6, none⟩, .int .i64 (0)) (by simp [half1_plan]); have e9 := hH.glob.fix (⟨pm, 7, none⟩, .int .i64 (0)) (by simp [half1_plan]); have e10 := hH.glob.fix (⟨pm, 8, none⟩, .int .i64 (-4294967296)) (by simp [half1_plan]); simp [execOp, go_sem, e1, e2, e3, e4, e5, e6, e7, e8, e9, e10]))) ?_
          refine AllDo.cons 17 rfl (does_guarded rfl d14 (rfl : half1_sh pa pw pl pq pm pb a0_0 a0_1 a0_2 w8 U 14 = _) (by simp) (does_pure _ rfl rfl (fun γ L a w hH hA => by have e1 := R10 γ L a w hH; have e2 := hH.glob.fix (⟨pb, 0, none⟩, .int .i64 ((-a0_0))) (by simp [half1_plan]); have e3 := hH.glob.fix (⟨pb, 1, none⟩, .int .i64 (a0_1)) (by simp [half1_plan]); have e4 := hH.glob.fix (⟨pb, 2, none⟩, .int .i64 ((-a0_2))) (by simp [half1_plan]); simp [execOp, go_sem, e1, e2, e3, e4]))) ?_
          refine AllDo.cons 18 rfl (does_guarded rfl d14 (rfl : half1_sh pa pw pl pq pm pb a0_0 a0_1 a0_2 w8 U 14 = _) (by simp) (does_call hπ _ (false) rfl (by simp [half1_plan]) (calls_only (half1_cn pa pw pl pq pm pb a0_0 a0_1 a0_2 w8 U) (by simp [half1_plan])) rfl (fun γ L a w hH hA g hg hz => by have e1 := hH.at d15 (rfl : half1_sh pa pw pl pq pm pb a0_0 a0_1 a0_2 w8 U 15 = _) (hA ⟨15, .data⟩ (by simp) rfl); have e2 := hH.at d16 (rfl : half1_sh pa pw pl pq pm pb a0_0 a0_1 a0_2 w8 U 16 = _) (hA ⟨16, .data⟩ (by simp) rfl); have e3 := hH.at d17 (rfl : half1_sh pa pw pl pq pm pb a0_0 a0_1 a0_2 w8 U 17 = _) (hA ⟨17, .data⟩ (by simp) rfl); exact ⟨14, #[.pointer (some ⟨pw, 0, none⟩), .agg #[.int .i64 (-4294967296), .int .i64 (0), .int .i64 (0), .int .i64 (0), .int .i64 (4294967296), .int .i64 (0), .int .i64 (0), .int .i64 (0), .int .i64 (-4294967296)], .agg #[.int .i64 ((-a0_0)), .int .i64 (a0_1), .int .i64 ((-a0_2))]], by simp [go_sem, e1, e2, e3], (vback_law pw 0 g (-4294967296) (0) (0) (0) (4294967296) (0) (0) (0) (-4294967296) ((-a0_0)) (a0_1) ((-a0_2)) w hg hz).mono (by rintro e W1 ⟨v0, v1, v2, g1, rfl, S, Z⟩; have h := S.out; rw [T0, T1, T2] at h; exact ⟨by rw [h.1, h.2.1, h.2.2.1]; rfl, g1, h.2.2.2, Z.out⟩)⟩))) ?_
          refine AllDo.cons 19 rfl (does_guarded rfl d14 (rfl : half1_sh pa pw pl pq pm pb a0_0 a0_1 a0_2 w8 U 14 = _) (by simp) (does_pure _ rfl rfl (fun γ L a w hH hA => by have e1 := R1 γ L a w hH; have e2 := hH.glob.fix (⟨pa, 0, none⟩, .int .i64 (a0_0)) (by simp [half1_plan]); have e3 := hH.glob.fix (⟨pa, 1, none⟩, .int .i64 (a0_1)) (by simp [half1_plan]); have e4 := hH.glob.fix (⟨pa, 2, none⟩, .int .i64 (a0_2)) (by simp [half1_plan]); simp [execOp, go_sem, e1, e2, e3, e4]))) ?_
          refine AllDo.cons 20 rfl (does_guarded rfl d14 (rfl : half1_sh pa pw pl pq pm pb a0_0 a0_1 a0_2 w8 U 14 = _) (by simp) (does_pure _ rfl rfl (fun γ L a w hH hA => by have e1 := hH.at d18 (rfl : half1_sh pa pw pl pq pm pb a0_0 a0_1 a0_2 w8 U 18 = _) (hA ⟨18, .data⟩ (by simp) rfl); have e2 := hH.at d19 (rfl : half1_sh pa pw pl pq pm pb a0_0 a0_1 a0_2 w8 U 19 = _) (hA ⟨19, .data⟩ (by simp) rfl); simp [execOp, go_sem, e1, e2]))) ?_
          refine AllDo.cons 21 rfl (does_pure _ rfl rfl (fun γ L a w hH hA => by have e1 := hH.at d14 (rfl : half1_sh pa pw pl pq pm pb a0_0 a0_1 a0_2 w8 U 14 = _) (hA ⟨14, .data⟩ (by simp) rfl); have e2 := hH.at d20 (rfl : half1_sh pa pw pl pq pm pb a0_0 a0_1 a0_2 w8 U 20 = _) (hA ⟨20, .data⟩ (by simp) rfl); simp [execOp, go_sem, e1, e2])) ?_
          exact AllDo.nil
        · intro γ a5 w5 L hL hLo hH
          have hL' : ∀ j, j < 22 → L j = true := fun j hj => hL j hj
          have ha := held_act hH hL (by kernel_rfl) (by kernel_rfl)
          have hG := hH.glob
          have hfl := hG.flagAll hπ (fun c hc => hL' c.1 (by simp only [half1_plan, List.mem_cons, List.not_mem_nil, or_false] at hc; rcases hc with rfl | rfl <;> simp))
          have c5 : w5.cell? ⟨pw, 0, none⟩ = some (.bool false) := hfl.1
          have f5 : w5.frozen? ⟨pw, 0, none⟩ = false := hfl.2
          have HB5 : Hid (Below w.heap.size w w5) := by
            have h : Leaves ⟨pw, 0, none⟩ w8 w5 := hG.leaves
            have h2 := h.below w8.heap.size w8 (Below.refl _ _) (by show _ ≤ pw; rw [HW8.out]; exact qw) (Nat.le_refl _)
            rw [HW8.out] at h2
            exact h2
          have yxa0 : w5.cell? ⟨pa, 0, none⟩ = some (.int .i64 a0_0) := hG.fix (⟨pa, 0, none⟩, .int .i64 (a0_0)) (by simp [half1_plan])
          have yxa1 : w5.cell? ⟨pa, 1, none⟩ = some (.int .i64 a0_1) := hG.fix (⟨pa, 1, none⟩, .int .i64 (a0_1)) (by simp [half1_plan])
          have yxa2 : w5.cell? ⟨pa, 2, none⟩ = some (.int .i64 a0_2) := hG.fix (⟨pa, 2, none⟩, .int .i64 (a0_2)) (by simp [half1_plan])
          have yxl0 : w5.cell? ⟨pl, 0, none⟩ = some (.int .i64 0) := hG.fix (⟨pl, 0, none⟩, .int .i64 (0)) (by simp [half1_plan])
          have yxl1 : w5.cell? ⟨pl, 1, none⟩ = some (.int .i64 4294967296) := hG.fix (⟨pl, 1, none⟩, .int .i64 (4294967296)) (by simp [half1_plan])
          have yxl2 : w5.cell? ⟨pl, 2, none⟩ = some (.int .i64 0) := hG.fix (⟨pl, 2, none⟩, .int .i64 (0)) (by simp [half1_plan])
          have yxl3 : w5.cell? ⟨pl, 3, none⟩ = some (.int .i64 0) := hG.fix (⟨pl, 3, none⟩, .int .i64 (0)) (by simp [half1_plan])
          have yxl4 : w5.cell? ⟨pl, 4, none⟩ = some (.int .i64 0) := hG.fix (⟨pl, 4, none⟩, .int .i64 (0)) (by simp [half1_plan])
          have yxl5 : w5.cell? ⟨pl, 5, none⟩ = some (.int .i64 0) := hG.fix (⟨pl, 5, none⟩, .int .i64 (0)) (by simp [half1_plan])
          have yxl6 : w5.cell? ⟨pl, 6, none⟩ = some (.int .i64 4294967296) := hG.fix (⟨pl, 6, none⟩, .int .i64 (4294967296)) (by simp [half1_plan])
          have yxl7 : w5.cell? ⟨pl, 7, none⟩ = some (.int .i64 0) := hG.fix (⟨pl, 7, none⟩, .int .i64 (0)) (by simp [half1_plan])
          have yxl8 : w5.cell? ⟨pl, 8, none⟩ = some (.int .i64 0) := hG.fix (⟨pl, 8, none⟩, .int .i64 (0)) (by simp [half1_plan])
          have yxl9 : w5.cell? ⟨pl, 9, none⟩ = some (.int .i64 0) := hG.fix (⟨pl, 9, none⟩, .int .i64 (0)) (by simp [half1_plan])
          have yxl10 : w5.cell? ⟨pl, 10, none⟩ = some (.int .i64 0) := hG.fix (⟨pl, 10, none⟩, .int .i64 (0)) (by simp [half1_plan])
          have yxl11 : w5.cell? ⟨pl, 11, none⟩ = some (.int .i64 4294967296) := hG.fix (⟨pl, 11, none⟩, .int .i64 (4294967296)) (by simp [half1_plan])
          have yxq0 : w5.cell? ⟨pq, 0, none⟩ = some (.int .i64 a0_0) := hG.fix (⟨pq, 0, none⟩, .int .i64 (a0_0)) (by simp [half1_plan])
          have yxq1 : w5.cell? ⟨pq, 1, none⟩ = some (.int .i64 (-a0_1)) := hG.fix (⟨pq, 1, none⟩, .int .i64 ((-a0_1))) (by simp [half1_plan])
          have yxq2 : w5.cell? ⟨pq, 2, none⟩ = some (.int .i64 (-a0_2)) := hG.fix (⟨pq, 2, none⟩, .int .i64 ((-a0_2))) (by simp [half1_plan])
          have yxq3 : w5.cell? ⟨pq, 3, none⟩ = some (.int .i64 (-a0_0)) := hG.fix (⟨pq, 3, none⟩, .int .i64 ((-a0_0))) (by simp [half1_plan])
          have yxq4 : w5.cell? ⟨pq, 4, none⟩ = some (.int .i64 a0_1) := hG.fix (⟨pq, 4, none⟩, .int .i64 (a0_1)) (by simp [half1_plan])
          have yxq5 : w5.cell? ⟨pq, 5, none⟩ = some (.int .i64 (-a0_2)) := hG.fix (⟨pq, 5, none⟩, .int .i64 ((-a0_2))) (by simp [half1_plan])
          have yxq6 : w5.cell? ⟨pq, 6, none⟩ = some (.int .i64 (-a0_0)) := hG.fix (⟨pq, 6, none⟩, .int .i64 ((-a0_0))) (by simp [half1_plan])
          have yxq7 : w5.cell? ⟨pq, 7, none⟩ = some (.int .i64 (-a0_1)) := hG.fix (⟨pq, 7, none⟩, .int .i64 ((-a0_1))) (by simp [half1_plan])
          have yxq8 : w5.cell? ⟨pq, 8, none⟩ = some (.int .i64 a0_2) := hG.fix (⟨pq, 8, none⟩, .int .i64 (a0_2)) (by simp [half1_plan])
          rw [ha]
          clear ha hH hG hL hL' hLo hπ hfl
          simp only [putAll, Act.put, List.setIfInBounds_toArray, List.set_cons_zero, List.set_cons_succ, shapeVal, Nat.zero_add, Nat.reduceAdd, half1_sh]
          go_wp2_with (fail)
          go_roundw
          case rel => exact ⟨2, by omega, by go_num, HB5.out, c5, f5, yxa0, yxa1, yxa2, yxl0, yxl1, yxl2, yxl3, yxl4, yxl5, yxl6, yxl7, yxl8, yxl9, yxl10, yxl11, yxq0, yxq1, yxq2, yxq3, yxq4, yxq5, yxq6, yxq7, yxq8⟩
          case measure => simp [intOf]
      | 2, _ =>
        have hk0 : rowsBad 0 0 0 4294967296 = false := by rfl
        have hv0 : (cond (rowsBad 0 0 0 4294967296) 0 (rowsAt0 0 0 0 4294967296)) = -4294967296 := by rfl
        have hv1 : (cond (rowsBad 0 0 0 4294967296) 0 (rowsAt1 0 0 0 4294967296)) = 0 := by rfl
        have hv2 : (cond (rowsBad 0 0 0 4294967296) 0 (rowsAt2 0 0 0 4294967296)) = 0 := by rfl
        have hv3 : (cond (rowsBad 0 0 0 4294967296) 0 (rowsAt3 0 0 0 4294967296)) = 0 := by rfl
        have hv4 : (cond (rowsBad 0 0 0 4294967296) 0 (rowsAt4 0 0 0 4294967296)) = -4294967296 := by rfl
        have hv5 : (cond (rowsBad 0 0 0 4294967296) 0 (rowsAt5 0 0 0 4294967296)) = 0 := by rfl
        have hv6 : (cond (rowsBad 0 0 0 4294967296) 0 (rowsAt6 0 0 0 4294967296)) = 0 := by rfl
        have hv7 : (cond (rowsBad 0 0 0 4294967296) 0 (rowsAt7 0 0 0 4294967296)) = 0 := by rfl
        have hv8 : (cond (rowsBad 0 0 0 4294967296) 0 (rowsAt8 0 0 0 4294967296)) = 4294967296 := by rfl
        have HV : Hid _ := And.intro hk0 (And.intro hv0 (And.intro hv1 (And.intro hv2 (And.intro hv3 (And.intro hv4 (And.intro hv5 (And.intro hv6 (And.intro hv7 hv8))))))))
        clear hk0 hv0 hv1 hv2 hv3 hv4 hv5 hv6 hv7 hv8
        go_wp2_with (fail)
        refine (vrows_law pw 0 false 0 0 0 4294967296 _ c f).mono ?_
        rintro e W1 ⟨rfl, Z⟩
        obtain ⟨hk0, hv0, hv1, hv2, hv3, hv4, hv5, hv6, hv7, hv8⟩ := HV.out
        rw [hv0, hv1, hv2, hv3, hv4, hv5, hv6, hv7, hv8]
        rw [hk0] at Z
        clear HV hk0 hv0 hv1 hv2 hv3 hv4 hv5 hv6 hv7 hv8
        have HB1 : Hid _ := Z.out.below _ _ HB.out qw HB.out.size
        have c1 := Z.out.cell
        have f1 := Z.out.frozen
        have axa0 := Z.out.cellOf xa0 (by show pa ≠ pw; omega)
        have axa1 := Z.out.cellOf xa1 (by show pa ≠ pw; omega)
        have axa2 := Z.out.cellOf xa2 (by show pa ≠ pw; omega)
        have axl0 := Z.out.cellOf xl0 (by show pl ≠ pw; omega)
        have axl1 := Z.out.cellOf xl1 (by show pl ≠ pw; omega)
        have axl2 := Z.out.cellOf xl2 (by show pl ≠ pw; omega)
        have axl3 := Z.out.cellOf xl3 (by show pl ≠ pw; omega)
        have axl4 := Z.out.cellOf xl4 (by show pl ≠ pw; omega)
        have axl5 := Z.out.cellOf xl5 (by show pl ≠ pw; omega)
        have axl6 := Z.out.cellOf xl6 (by show pl ≠ pw; omega)
        have axl7 := Z.out.cellOf xl7 (by show pl ≠ pw; omega)
        have axl8 := Z.out.cellOf xl8 (by show pl ≠ pw; omega)
        have axl9 := Z.out.cellOf xl9 (by show pl ≠ pw; omega)
        have axl10 := Z.out.cellOf xl10 (by show pl ≠ pw; omega)
        have axl11 := Z.out.cellOf xl11 (by show pl ≠ pw; omega)
        have axq0 := Z.out.cellOf xq0 (by show pq ≠ pw; omega)
        have axq1 := Z.out.cellOf xq1 (by show pq ≠ pw; omega)
        have axq2 := Z.out.cellOf xq2 (by show pq ≠ pw; omega)
        have axq3 := Z.out.cellOf xq3 (by show pq ≠ pw; omega)
        have axq4 := Z.out.cellOf xq4 (by show pq ≠ pw; omega)
        have axq5 := Z.out.cellOf xq5 (by show pq ≠ pw; omega)
        have axq6 := Z.out.cellOf xq6 (by show pq ≠ pw; omega)
        have axq7 := Z.out.cellOf xq7 (by show pq ≠ pw; omega)
        have axq8 := Z.out.cellOf xq8 (by show pq ≠ pw; omega)
        have q1 : pw < W1.heap.size := World.block_lt_of_cell? _ _ c1
        clear Z c f HB xa0 xa1 xa2 xl0 xl1 xl2 xl3 xl4 xl5 xl6 xl7 xl8 xl9 xl10 xl11 xq0 xq1 xq2 xq3 xq4 xq5 xq6 xq7 xq8
        obtain ⟨pm, hpm⟩ : ∃ p, p = W1.heap.size := ⟨_, rfl⟩
        have nb := new_after W1 (.cells #[.int .i64 (-4294967296), .int .i64 0, .int .i64 0, .int .i64 0, .int .i64 (-4294967296), .int .i64 0, .int .i64 0, .int .i64 0, .int .i64 4294967296] 37)
        have HB2 : Hid _ := HB1.out.alloc HB1.out.size (.cells #[.int .i64 (-4294967296), .int .i64 0, .int .i64 0, .int .i64 0, .int .i64 (-4294967296), .int .i64 0, .int .i64 0, .int .i64 0, .int .i64 4294967296] 37)
        have f2 := frozen_after nb c1 f1
        have c2 := cell_after nb c1
        have bxa0 := cell_after nb axa0
        have bxa1 := cell_after nb axa1
        have bxa2 := cell_after nb axa2
        have bxl0 := cell_after nb axl0
        have bxl1 := cell_after nb axl1
        have bxl2 := cell_after nb axl2
        have bxl3 := cell_after nb axl3
        have bxl4 := cell_after nb axl4
        have bxl5 := cell_after nb axl5
        have bxl6 := cell_after nb axl6
        have bxl7 := cell_after nb axl7
        have bxl8 := cell_after nb axl8
        have bxl9 := cell_after nb axl9
        have bxl10 := cell_after nb axl10
        have bxl11 := cell_after nb axl11
        have bxq0 := cell_after nb axq0
        have bxq1 := cell_after nb axq1
        have bxq2 := cell_after nb axq2
        have bxq3 := cell_after nb axq3
        have bxq4 := cell_after nb axq4
        have bxq5 := cell_after nb axq5
        have bxq6 := cell_after nb axq6
        have bxq7 := cell_after nb axq7
        have bxq8 := cell_after nb axq8
        have bm0 : (W1.alloc (.cells #[.int .i64 (-4294967296), .int .i64 0, .int .i64 0, .int .i64 0, .int .i64 (-4294967296), .int .i64 0, .int .i64 0, .int .i64 0, .int .i64 4294967296] 37)).cell? ⟨pm, 0, none⟩ = some (.int .i64 (-4294967296)) := by rw [hpm]; simp
        have bm1 : (W1.alloc (.cells #[.int .i64 (-4294967296), .int .i64 0, .int .i64 0, .int .i64 0, .int .i64 (-4294967296), .int .i64 0, .int .i64 0, .int .i64 0, .int .i64 4294967296] 37)).cell? ⟨pm, 1, none⟩ = some (.int .i64 0) := by rw [hpm]; simp
        have bm2 : (W1.alloc (.cells #[.int .i64 (-4294967296), .int .i64 0, .int .i64 0, .int .i64 0, .int .i64 (-4294967296), .int .i64 0, .int .i64 0, .int .i64 0, .int .i64 4294967296] 37)).cell? ⟨pm, 2, none⟩ = some (.int .i64 0) := by rw [hpm]; simp
        have bm3 : (W1.alloc (.cells #[.int .i64 (-4294967296), .int .i64 0, .int .i64 0, .int .i64 0, .int .i64 (-4294967296), .int .i64 0, .int .i64 0, .int .i64 0, .int .i64 4294967296] 37)).cell? ⟨pm, 3, none⟩ = some (.int .i64 0) := by rw [hpm]; simp
        have bm4 : (W1.alloc (.cells #[.int .i64 (-4294967296), .int .i64 0, .int .i64 0, .int .i64 0, .int .i64 (-4294967296), .int .i64 0, .int .i64 0, .int .i64 0, .int .i64 4294967296] 37)).cell? ⟨pm, 4, none⟩ = some (.int .i64 (-4294967296)) := by rw [hpm]; simp
        have bm5 : (W1.alloc (.cells #[.int .i64 (-4294967296), .int .i64 0, .int .i64 0, .int .i64 0, .int .i64 (-4294967296), .int .i64 0, .int .i64 0, .int .i64 0, .int .i64 4294967296] 37)).cell? ⟨pm, 5, none⟩ = some (.int .i64 0) := by rw [hpm]; simp
        have bm6 : (W1.alloc (.cells #[.int .i64 (-4294967296), .int .i64 0, .int .i64 0, .int .i64 0, .int .i64 (-4294967296), .int .i64 0, .int .i64 0, .int .i64 0, .int .i64 4294967296] 37)).cell? ⟨pm, 6, none⟩ = some (.int .i64 0) := by rw [hpm]; simp
        have bm7 : (W1.alloc (.cells #[.int .i64 (-4294967296), .int .i64 0, .int .i64 0, .int .i64 0, .int .i64 (-4294967296), .int .i64 0, .int .i64 0, .int .i64 0, .int .i64 4294967296] 37)).cell? ⟨pm, 7, none⟩ = some (.int .i64 0) := by rw [hpm]; simp
        have bm8 : (W1.alloc (.cells #[.int .i64 (-4294967296), .int .i64 0, .int .i64 0, .int .i64 0, .int .i64 (-4294967296), .int .i64 0, .int .i64 0, .int .i64 0, .int .i64 4294967296] 37)).cell? ⟨pm, 8, none⟩ = some (.int .i64 4294967296) := by rw [hpm]; simp
        have qm : pw < pm := by omega
        clear nb c1 f1 HB1 axa0 axa1 axa2 axl0 axl1 axl2 axl3 axl4 axl5 axl6 axl7 axl8 axl9 axl10 axl11 axq0 axq1 axq2 axq3 axq4 axq5 axq6 axq7 axq8
        go_wp2_with (fail)
        rw [← hpm]
        refine (vturn_law pw 0 false (-4294967296) 0 0 0 (-4294967296) 0 0 0 4294967296 a0_0 a0_1 a0_2 _ c2 f2).mono ?_
        rintro e W2 ⟨v0, v1, v2, g, rfl, S, Z⟩
        obtain ⟨rfl, rfl, rfl, rfl⟩ : (-a0_0) = v0 ∧ (-a0_1) = v1 ∧ a0_2 = v2 ∧ false = g := by
          have h := S.out
          rw [dg0n hX hY hZ, dg1n hX hY hZ, dg2p hX hY hZ] at h
          have h2 : v0 = (-a0_0) ∧ v1 = (-a0_1) ∧ v2 = a0_2 ∧ g = false := h
          exact ⟨h2.1.symm, h2.2.1.symm, h2.2.2.1.symm, h2.2.2.2.symm⟩
        have HB3 : Hid _ := Z.out.below _ _ HB2.out qw HB2.out.size
        have c3 := Z.out.cell
        have f3 := Z.out.frozen
        have dxa0 := Z.out.cellOf bxa0 (by show pa ≠ pw; omega)
        have dxa1 := Z.out.cellOf bxa1 (by show pa ≠ pw; omega)
        have dxa2 := Z.out.cellOf bxa2 (by show pa ≠ pw; omega)
        have dxl0 := Z.out.cellOf bxl0 (by show pl ≠ pw; omega)
        have dxl1 := Z.out.cellOf bxl1 (by show pl ≠ pw; omega)
        have dxl2 := Z.out.cellOf bxl2 (by show pl ≠ pw; omega)
        have dxl3 := Z.out.cellOf bxl3 (by show pl ≠ pw; omega)
        have dxl4 := Z.out.cellOf bxl4 (by show pl ≠ pw; omega)
        have dxl5 := Z.out.cellOf bxl5 (by show pl ≠ pw; omega)
        have dxl6 := Z.out.cellOf bxl6 (by show pl ≠ pw; omega)
        have dxl7 := Z.out.cellOf bxl7 (by show pl ≠ pw; omega)
        have dxl8 := Z.out.cellOf bxl8 (by show pl ≠ pw; omega)
        have dxl9 := Z.out.cellOf bxl9 (by show pl ≠ pw; omega)
        have dxl10 := Z.out.cellOf bxl10 (by show pl ≠ pw; omega)
        have dxl11 := Z.out.cellOf bxl11 (by show pl ≠ pw; omega)
        have dxq0 := Z.out.cellOf bxq0 (by show pq ≠ pw; omega)
        have dxq1 := Z.out.cellOf bxq1 (by show pq ≠ pw; omega)
        have dxq2 := Z.out.cellOf bxq2 (by show pq ≠ pw; omega)
        have dxq3 := Z.out.cellOf bxq3 (by show pq ≠ pw; omega)
        have dxq4 := Z.out.cellOf bxq4 (by show pq ≠ pw; omega)
        have dxq5 := Z.out.cellOf bxq5 (by show pq ≠ pw; omega)
        have dxq6 := Z.out.cellOf bxq6 (by show pq ≠ pw; omega)
        have dxq7 := Z.out.cellOf bxq7 (by show pq ≠ pw; omega)
        have dxq8 := Z.out.cellOf bxq8 (by show pq ≠ pw; omega)
        have dm0 := Z.out.cellOf bm0 (by show pm ≠ pw; omega)
        have dm1 := Z.out.cellOf bm1 (by show pm ≠ pw; omega)
        have dm2 := Z.out.cellOf bm2 (by show pm ≠ pw; omega)
        have dm3 := Z.out.cellOf bm3 (by show pm ≠ pw; omega)
        have dm4 := Z.out.cellOf bm4 (by show pm ≠ pw; omega)
        have dm5 := Z.out.cellOf bm5 (by show pm ≠ pw; omega)
        have dm6 := Z.out.cellOf bm6 (by show pm ≠ pw; omega)
        have dm7 := Z.out.cellOf bm7 (by show pm ≠ pw; omega)
        have dm8 := Z.out.cellOf bm8 (by show pm ≠ pw; omega)
        clear Z S c2 f2 HB2 hpm bxa0 bxa1 bxa2 bxl0 bxl1 bxl2 bxl3 bxl4 bxl5 bxl6 bxl7 bxl8 bxl9 bxl10 bxl11 bxq0 bxq1 bxq2 bxq3 bxq4 bxq5 bxq6 bxq7 bxq8 bm0 bm1 bm2 bm3 bm4 bm5 bm6 bm7 bm8
        have q2 : pm < W2.heap.size := World.block_lt_of_cell? _ _ dm0
        obtain ⟨pb, hpb⟩ : ∃ p, p = W2.heap.size := ⟨_, rfl⟩
        have nb := new_after W2 (.cells #[.int .i64 (-a0_0), .int .i64 (-a0_1), .int .i64 a0_2] 23)
        have HB4 : Hid _ := HB3.out.alloc HB3.out.size (.cells #[.int .i64 (-a0_0), .int .i64 (-a0_1), .int .i64 a0_2] 23)
        have f := frozen_after nb c3 f3
        have c := cell_after nb c3
        have xa0 := cell_after nb dxa0
        have xa1 := cell_after nb dxa1
        have xa2 := cell_after nb dxa2
        have xl0 := cell_after nb dxl0
        have xl1 := cell_after nb dxl1
        have xl2 := cell_after nb dxl2
        have xl3 := cell_after nb dxl3
        have xl4 := cell_after nb dxl4
        have xl5 := cell_after nb dxl5
        have xl6 := cell_after nb dxl6
        have xl7 := cell_after nb dxl7
        have xl8 := cell_after nb dxl8
        have xl9 := cell_after nb dxl9
        have xl10 := cell_after nb dxl10
        have xl11 := cell_after nb dxl11
        have xq0 := cell_after nb dxq0
        have xq1 := cell_after nb dxq1
        have xq2 := cell_after nb dxq2
        have xq3 := cell_after nb dxq3
        have xq4 := cell_after nb dxq4
        have xq5 := cell_after nb dxq5
        have xq6 := cell_after nb dxq6
        have xq7 := cell_after nb dxq7
        have xq8 := cell_after nb dxq8
        have em0 := cell_after nb dm0
        have em1 := cell_after nb dm1
        have em2 := cell_after nb dm2
        have em3 := cell_after nb dm3
        have em4 := cell_after nb dm4
        have em5 := cell_after nb dm5
        have em6 := cell_after nb dm6
        have em7 := cell_after nb dm7
        have em8 := cell_after nb dm8
        have eb0 : (W2.alloc (.cells #[.int .i64 (-a0_0), .int .i64 (-a0_1), .int .i64 a0_2] 23)).cell? ⟨pb, 0, none⟩ = some (.int .i64 (-a0_0)) := by rw [hpb]; simp
        have eb1 : (W2.alloc (.cells #[.int .i64 (-a0_0), .int .i64 (-a0_1), .int .i64 a0_2] 23)).cell? ⟨pb, 1, none⟩ = some (.int .i64 (-a0_1)) := by rw [hpb]; simp
        have eb2 : (W2.alloc (.cells #[.int .i64 (-a0_0), .int .i64 (-a0_1), .int .i64 a0_2] 23)).cell? ⟨pb, 2, none⟩ = some (.int .i64 a0_2) := by rw [hpb]; simp
        clear nb c3 f3 HB3 dxa0 dxa1 dxa2 dxl0 dxl1 dxl2 dxl3 dxl4 dxl5 dxl6 dxl7 dxl8 dxl9 dxl10 dxl11 dxq0 dxq1 dxq2 dxq3 dxq4 dxq5 dxq6 dxq7 dxq8 dm0 dm1 dm2 dm3 dm4 dm5 dm6 dm7 dm8
        have hXb : -1152921504606846976 ≤ (-a0_0) ∧ (-a0_0) ≤ 1152921504606846976 := by omega
        have hYb : -1152921504606846976 ≤ (-a0_1) ∧ (-a0_1) ≤ 1152921504606846976 := by omega
        have hZb : -1152921504606846976 ≤ a0_2 ∧ a0_2 ≤ 1152921504606846976 := by omega
        have T0 := dg0n hXb hYb hZb
        have T1 := dg1n hXb hYb hZb
        have T2 := dg2p hXb hYb hZb
        simp only [Int.neg_neg] at T0 T1 T2
        have HT : Hid _ := And.intro T0 (And.intro T1 T2)
        clear T0 T1 T2
        go_wp2_with (fail)
        rw [← hpb]
        obtain ⟨U, hU⟩ : ∃ U, U = W2.alloc (.cells #[.int .i64 (-a0_0), .int .i64 (-a0_1), .int .i64 a0_2] 23) := ⟨_, rfl⟩
        rw [← hU] at c f HB4 xa0 xa1 xa2 xl0 xl1 xl2 xl3 xl4 xl5 xl6 xl7 xl8 xl9 xl10 xl11 xq0 xq1 xq2 xq3 xq4 xq5 xq6 xq7 xq8 em0 em1 em2 em3 em4 em5 em6 em7 em8 eb0 eb1 eb2
        rw [← hU]
        have qU : pb < U.heap.size := by rw [hU, hpb]; simp
        have qmb : pm < pb := by omega
        have qUl : pl < U.heap.size := World.block_lt_of_cell? _ _ xl0
        have qUq : pq < U.heap.size := World.block_lt_of_cell? _ _ xq0
        clear hU hpb
        obtain ⟨w8, hw8⟩ : ∃ x : World, x = w := ⟨_, rfl⟩
        have HL : Hid (Leaves ⟨pw, 0, none⟩ w8 U) := by show Leaves _ _ _; rw [hw8]; exact leaves_of HB4.out
        have q8 : w8.heap.size ≤ U.heap.size := by rw [hw8]; exact HB4.out.size
        have HW8 : Hid _ := hw8
        clear hw8 HB4
        obtain ⟨T0, T1, T2⟩ := HT.out

        have hπ : (half2_plan pa pw pl pq pm pb a0_0 a0_1 a0_2 w8 U).Good := by
          refine ⟨?_, Or.inl rfl, Or.inl rfl, ?_, Or.inl rfl, ?_, (half2_bads pa pw pl pq pm pb a0_0 a0_1 a0_2 w8 U).1, (half2_bads pa pw pl pq pm pb a0_0 a0_1 a0_2 w8 U).2⟩
          · show w8.heap.size ≤ U.heap.size; omega
          · show pw < U.heap.size; omega
          · intro c hc
            simp only [half2_plan, List.mem_cons, List.not_mem_nil, or_false] at hc
            rcases hc with rfl | rfl | rfl | rfl | rfl | rfl | rfl | rfl | rfl | rfl | rfl | rfl | rfl | rfl | rfl | rfl | rfl | rfl | rfl | rfl | rfl | rfl | rfl | rfl | rfl | rfl | rfl | rfl | rfl | rfl | rfl | rfl | rfl | rfl | rfl | rfl <;> (show _ < U.heap.size ∧ _ ≠ pw ∧ _ ≠ pw) <;> (dsimp only) <;> omega
        refine region_by (shapeVal (half2_sh pa pw pl pq pm pb a0_0 a0_1 a0_2 w8 U)) (Glob (half2_plan pa pw pl pq pm pb a0_0 a0_1 a0_2 w8 U)) (by kernel_rfl) (by kernel_rfl) (by kernel_rfl) (by kernel_rfl) (fun _ => 0) ?_ ?_ ?_
        · refine ⟨?_, ?_, ?_, ?_, ?_, ?_, (fun _ _ h => by cases h), (fun _ _ _ _ h => by cases h)⟩
          · exact HL.out.drew
          · exact Nat.le_refl _
          · exact ⟨false, c, f, fun h => (by cases h), fun h => h, fun _ _ h => by cases h⟩
          · exact Or.inl rfl
          · exact ⟨[], rfl, fun k v hk => by simp at hk, fun h => by cases h⟩
          · intro x hx
            simp only [half2_plan, List.mem_cons, List.not_mem_nil, or_false] at hx
            rcases hx with rfl | rfl | rfl | rfl | rfl | rfl | rfl | rfl | rfl | rfl | rfl | rfl | rfl | rfl | rfl | rfl | rfl | rfl | rfl | rfl | rfl | rfl | rfl | rfl | rfl | rfl | rfl | rfl | rfl | rfl | rfl | rfl | rfl | rfl | rfl | rfl <;> assumption
        · generalize hD : dstOf _ = D
          generalize hA : waitsFor _ = A
          generalize hZ : Act.mk _ _ = Z
          have d0 : D 0 = some 65 := by rw [← hD]; rfl
          have d1 : D 1 = some 66 := by rw [← hD]; rfl
          have d2 : D 2 = some 67 := by rw [← hD]; rfl
          have d3 : D 3 = some 68 := by rw [← hD]; rfl
          have d4 : D 4 = some 69 := by rw [← hD]; rfl
          have d5 : D 5 = some 70 := by rw [← hD]; rfl
          have d6 : D 6 = some 71 := by rw [← hD]; rfl
          have d7 : D 7 = some 72 := by rw [← hD]; rfl
          have d8 : D 8 = some 73 := by rw [← hD]; rfl
          have d9 : D 9 = some 74 := by rw [← hD]; rfl
          have d10 : D 10 = some 75 := by rw [← hD]; rfl
          have d11 : D 11 = some 76 := by rw [← hD]; rfl
          have d12 : D 12 = some 77 := by rw [← hD]; rfl
          have d13 : D 13 = some 78 := by rw [← hD]; rfl
          have d14 : D 14 = some 79 := by rw [← hD]; rfl
          have d15 : D 15 = some 80 := by rw [← hD]; rfl
          have d16 : D 16 = some 81 := by rw [← hD]; rfl
          have d17 : D 17 = some 82 := by rw [← hD]; rfl
          have d18 : D 18 = some 83 := by rw [← hD]; rfl
          have d19 : D 19 = some 84 := by rw [← hD]; rfl
          have d20 : D 20 = some 85 := by rw [← hD]; rfl
          have d21 : D 21 = some 86 := by rw [← hD]; rfl
          have R1 : ∀ (γ : Nat → Nat) (L : Nat → Bool) (a : Act) (w : World), Held D A (shapeVal (half2_sh pa pw pl pq pm pb a0_0 a0_1 a0_2 w8 U)) (Glob (half2_plan pa pw pl pq pm pb a0_0 a0_1 a0_2 w8 U)) Z γ L a w → a.tmps[1]? = some (.pointer (some ⟨pa, 0, none⟩)) := fun γ L a w hH => (hH.rest 1 (by rw [← hD]; exact dst_free (by kernel_rfl))).trans (by rw [← hZ]; rfl)
          have R5 : ∀ (γ : Nat → Nat) (L : Nat → Bool) (a : Act) (w : World), Held D A (shapeVal (half2_sh pa pw pl pq pm pb a0_0 a0_1 a0_2 w8 U)) (Glob (half2_plan pa pw pl pq pm pb a0_0 a0_1 a0_2 w8 U)) Z γ L a w → a.tmps[5]? = some (.pointer (some ⟨pw, 0, none⟩)) := fun γ L a w hH => (hH.rest 5 (by rw [← hD]; exact dst_free (by kernel_rfl))).trans (by rw [← hZ]; rfl)
          have R7 : ∀ (γ : Nat → Nat) (L : Nat → Bool) (a : Act) (w : World), Held D A (shapeVal (half2_sh pa pw pl pq pm pb a0_0 a0_1 a0_2 w8 U)) (Glob (half2_plan pa pw pl pq pm pb a0_0 a0_1 a0_2 w8 U)) Z γ L a w → a.tmps[7]? = some (.slice (some ⟨pq, 0, none⟩) 3 3) := fun γ L a w hH => (hH.rest 7 (by rw [← hD]; exact dst_free (by kernel_rfl))).trans (by rw [← hZ]; rfl)
          have R8 : ∀ (γ : Nat → Nat) (L : Nat → Bool) (a : Act) (w : World), Held D A (shapeVal (half2_sh pa pw pl pq pm pb a0_0 a0_1 a0_2 w8 U)) (Glob (half2_plan pa pw pl pq pm pb a0_0 a0_1 a0_2 w8 U)) Z γ L a w → a.tmps[8]? = some (.int .i64 (2)) := fun γ L a w hH => (hH.rest 8 (by rw [← hD]; exact dst_free (by kernel_rfl))).trans (by rw [← hZ]; rfl)
          have R9 : ∀ (γ : Nat → Nat) (L : Nat → Bool) (a : Act) (w : World), Held D A (shapeVal (half2_sh pa pw pl pq pm pb a0_0 a0_1 a0_2 w8 U)) (Glob (half2_plan pa pw pl pq pm pb a0_0 a0_1 a0_2 w8 U)) Z γ L a w → a.tmps[9]? = some (.pointer (some ⟨pm, 0, none⟩)) := fun γ L a w hH => (hH.rest 9 (by rw [← hD]; exact dst_free (by kernel_rfl))).trans (by rw [← hZ]; rfl)
          have R10 : ∀ (γ : Nat → Nat) (L : Nat → Bool) (a : Act) (w : World), Held D A (shapeVal (half2_sh pa pw pl pq pm pb a0_0 a0_1 a0_2 w8 U)) (Glob (half2_plan pa pw pl pq pm pb a0_0 a0_1 a0_2 w8 U)) Z γ L a w → a.tmps[10]? = some (.pointer (some ⟨pb, 0, none⟩)) := fun γ L a w hH => (hH.rest 10 (by rw [← hD]; exact dst_free (by kernel_rfl))).trans (by rw [← hZ]; rfl)

          clear hD hA hZ
          refine AllDo.cons 0 rfl (does_pure _ rfl rfl (fun γ L a w hH hA => by have e1 := R10 γ L a w hH; have e2 := hH.glob.fix (⟨pb, 0, none⟩, .int .i64 ((-a0_0))) (by simp [half2_plan]); have e3 := hH.glob.fix (⟨pb, 1, none⟩, .int .i64 ((-a0_1))) (by simp [half2_plan]); have e4 := hH.glob.fix (⟨pb, 2, none⟩, .int .i64 (a0_2)) (by simp [half2_plan]); simp [execOp, go_sem, e1, e2, e3, e4])) ?_
          refine AllDo.cons 1 rfl (does_pure _ rfl rfl (fun γ L a w hH hA => by have e1 := R7 γ L a w hH; simp [execOp, go_sem, e1])) ?_
          refine AllDo.cons 2 rfl (does_pure _ rfl rfl (fun γ L a w hH hA => by have e1 := R8 γ L a w hH; simp [execOp, go_sem, e1])) ?_
          refine AllDo.cons 3 rfl (does_pure _ rfl rfl (fun γ L a w hH hA => by have e1 := hH.at d1 (rfl : half2_sh pa pw pl pq pm pb a0_0 a0_1 a0_2 w8 U 1 = _) (hA ⟨1, .data⟩ (by simp) rfl); have e2 := hH.at d2 (rfl : half2_sh pa pw pl pq pm pb a0_0 a0_1 a0_2 w8 U 2 = _) (hA ⟨2, .data⟩ (by simp) rfl); simp [execOp, go_sem, e1, e2])) ?_
          refine AllDo.cons 4 rfl (does_pure _ rfl rfl (fun γ L a w hH hA => by have e1 := hH.at d3 (rfl : half2_sh pa pw pl pq pm pb a0_0 a0_1 a0_2 w8 U 3 = _) (hA ⟨3, .data⟩ (by simp) rfl); have e2 := hH.glob.fix (⟨pq, 6, none⟩, .int .i64 ((-a0_0))) (by simp [half2_plan]); have e3 := hH.glob.fix (⟨pq, 7, none⟩, .int .i64 ((-a0_1))) (by simp [half2_plan]); have e4 := hH.glob.fix (⟨pq, 8, none⟩, .int .i64 (a0_2)) (by simp [half2_plan]); simp [execOp, go_sem, e1, e2, e3, e4])) ?_
          refine AllDo.cons 5 rfl (does_pure _ rfl rfl (fun γ L a w hH hA => by have e1 := hH.at d0 (rfl : half2_sh pa pw pl pq pm pb a0_0 a0_1 a0_2 w8 U 0 = _) (hA ⟨0, .data⟩ (by simp) rfl); have e2 := hH.at d4 (rfl : half2_sh pa pw pl pq pm pb a0_0 a0_1 a0_2 w8 U 4 = _) (hA ⟨4, .data⟩ (by simp) rfl); simp [execOp, go_sem, e1, e2])) ?_
          refine AllDo.cons 6 rfl (does_pure _ rfl rfl (fun γ L a w hH hA => by have e1 := hH.at d5 (rfl : half2_sh pa pw pl pq pm pb a0_0 a0_1 a0_2 w8 U 5 = _) (hA ⟨5, .data⟩ (by simp) rfl); simp [execOp, go_sem, e1])) ?_
          refine AllDo.cons 7 rfl (does_guarded rfl d6 (rfl : half2_sh pa pw pl pq pm pb a0_0 a0_1 a0_2 w8 U 6 = _) (by simp) (does_pure _ rfl rfl (fun γ L a w hH hA => by have e1 := R5 γ L a w hH; simp [execOp, go_sem, e1]))) ?_
          refine AllDo.cons 8 rfl (does_guarded rfl d6 (rfl : half2_sh pa pw pl pq pm pb a0_0 a0_1 a0_2 w8 U 6 = _) (by simp) (does_pure _ rfl rfl (fun γ L a w hH hA => by have e1 := R9 γ L a w hH; have e2 := hH.glob.fix (⟨pm, 0, none⟩, .int .i64 (-4294967296)) (by simp [half2_plan]); have e3 := hH.glob.fix (⟨pm, 1, none⟩, .int .i64 (0)) (by simp [half2_plan]); have e4 := hH.glob.fix (⟨pm, 2, none⟩, .int .i64 (0)) (by simp [half2_plan]); have e5 := hH.glob.fix (⟨pm, 3, none⟩, .int .i64 (0)) (by simp [half2_plan]); have e6 := hH.glob.fix (⟨pm, 4, none⟩, .int .i64 (-4294967296)) (by simp [half2_plan]); have e7 := hH.glob.fix (⟨pm, 5, none⟩, .int .i64 (0)) (by simp [half2_plan]); have e8 := hH.glob.fix (⟨pm, 6, none⟩, .int .i64 (0)) (by simp [half2_plan]); have e9 := hH.glob.fix (⟨pm, 7, none⟩, .int .i64 (0)) (by simp [half2_plan]); have e10 := hH.glob.fix (⟨pm, 8, none⟩, .int .i64 (4294967296)) (by simp [half2_plan]); simp [execOp, go_sem, e1, e2, e3, e4, e5, e6, e7, e8, e9, e10]))) ?_
          refine AllDo.cons 9 rfl (does_guarded rfl d6 (rfl : half2_sh pa pw pl pq pm pb a0_0 a0_1 a0_2 w8 U 6 = _) (by simp) (does_pure _ rfl rfl (fun γ L a w hH hA => by have e1 := R10 γ L a w hH; have e2 := hH.glob.fix (⟨pb, 0, none⟩, .int .i64 ((-a0_0))) (by simp [half2_plan]); have e3 := hH.glob.fix (⟨pb, 1, none⟩, .int .i64 ((-a0_1))) (by simp [half2_plan]); have e4 := hH.glob.fix (⟨pb, 2, none⟩, .int .i64 (a0_2)) (by simp [half2_plan]); simp [execOp, go_sem, e1, e2, e3, e4]))) ?_
          refine AllDo.cons 10 rfl (does_guarded rfl d6 (rfl : half2_sh pa pw pl pq pm pb a0_0 a0_1 a0_2 w8 U 6 = _) (by simp) (does_call hπ _ (false) rfl (by simp [half2_plan]) (calls_only (half2_cn pa pw pl pq pm pb a0_0 a0_1 a0_2 w8 U) (by simp [half2_plan])) rfl (fun γ L a w hH hA g hg hz => by have e1 := hH.at d7 (rfl : half2_sh pa pw pl pq pm pb a0_0 a0_1 a0_2 w8 U 7 = _) (hA ⟨7, .data⟩ (by simp) rfl); have e2 := hH.at d8 (rfl : half2_sh pa pw pl pq pm pb a0_0 a0_1 a0_2 w8 U 8 = _) (hA ⟨8, .data⟩ (by simp) rfl); have e3 := hH.at d9 (rfl : half2_sh pa pw pl pq pm pb a0_0 a0_1 a0_2 w8 U 9 = _) (hA ⟨9, .data⟩ (by simp) rfl); exact ⟨15, #[.pointer (some ⟨pw, 0, none⟩), .agg #[.int .i64 (-4294967296), .int .i64 (0), .int .i64 (0), .int .i64 (0), .int .i64 (-4294967296), .int .i64 (0), .int .i64 (0), .int .i64 (0), .int .i64 (4294967296)], .agg #[.int .i64 ((-a0_0)), .int .i64 ((-a0_1)), .int .i64 (a0_2)]], by simp [go_sem, e1, e2, e3], (vturn_law pw 0 g (-4294967296) (0) (0) (0) (-4294967296) (0) (0) (0) (4294967296) ((-a0_0)) ((-a0_1)) (a0_2) w hg hz).mono (by rintro e W1 ⟨v0, v1, v2, g1, rfl, S, Z⟩; have h := S.out; rw [T0, T1, T2] at h; exact ⟨by rw [h.1, h.2.1, h.2.2.1]; rfl, g1, h.2.2.2, Z.out⟩)⟩))) ?_
          refine AllDo.cons 11 rfl (does_guarded rfl d6 (rfl : half2_sh pa pw pl pq pm pb a0_0 a0_1 a0_2 w8 U 6 = _) (by simp) (does_pure _ rfl rfl (fun γ L a w hH hA => by have e1 := R1 γ L a w hH; have e2 := hH.glob.fix (⟨pa, 0, none⟩, .int .i64 (a0_0)) (by simp [half2_plan]); have e3 := hH.glob.fix (⟨pa, 1, none⟩, .int .i64 (a0_1)) (by simp [half2_plan]); have e4 := hH.glob.fix (⟨pa, 2, none⟩, .int .i64 (a0_2)) (by simp [half2_plan]); simp [execOp, go_sem, e1, e2, e3, e4]))) ?_
          refine AllDo.cons 12 rfl (does_guarded rfl d6 (rfl : half2_sh pa pw pl pq pm pb a0_0 a0_1 a0_2 w8 U 6 = _) (by simp) (does_pure _ rfl rfl (fun γ L a w hH hA => by have e1 := hH.at d10 (rfl : half2_sh pa pw pl pq pm pb a0_0 a0_1 a0_2 w8 U 10 = _) (hA ⟨10, .data⟩ (by simp) rfl); have e2 := hH.at d11 (rfl : half2_sh pa pw pl pq pm pb a0_0 a0_1 a0_2 w8 U 11 = _) (hA ⟨11, .data⟩ (by simp) rfl); simp [execOp, go_sem, e1, e2]))) ?_
          refine AllDo.cons 13 rfl (does_pure _ rfl rfl (fun γ L a w hH hA => by have e1 := hH.at d6 (rfl : half2_sh pa pw pl pq pm pb a0_0 a0_1 a0_2 w8 U 6 = _) (hA ⟨6, .data⟩ (by simp) rfl); have e2 := hH.at d12 (rfl : half2_sh pa pw pl pq pm pb a0_0 a0_1 a0_2 w8 U 12 = _) (hA ⟨12, .data⟩ (by simp) rfl); simp [execOp, go_sem, e1, e2])) ?_
          refine AllDo.cons 14 rfl (does_pure _ rfl rfl (fun γ L a w hH hA => by have e1 := hH.at d13 (rfl : half2_sh pa pw pl pq pm pb a0_0 a0_1 a0_2 w8 U 13 = _) (hA ⟨13, .data⟩ (by simp) rfl); simp [execOp, go_sem, e1])) ?_
          refine AllDo.cons 15 rfl (does_guarded rfl d14 (rfl : half2_sh pa pw pl pq pm pb a0_0 a0_1 a0_2 w8 U 14 = _) (by simp) (does_pure _ rfl rfl (fun γ L a w hH hA => by have e1 := R5 γ L a w hH; simp [execOp, go_sem, e1]))) ?_
          refine AllDo.cons 16 rfl (does_guarded rfl d14 (rfl : half2_sh pa pw pl pq pm pb a0_0 a0_1 a0_2 w8 U 14 = _) (by simp) (does_pure _ rfl rfl (fun γ L a w hH hA => by have e1 := R9 γ L a w hH; have e2 := hH.glob.fix (⟨pm, 0, none⟩, .int .i64 (-4294967296)) (by simp [half2_plan]); have e3 := hH.glob.fix (⟨pm, 1, none⟩, .int .i64 (0)) (by simp [half2_plan]); have e4 := hH.glob.fix (⟨pm, 2, none⟩, .int .i64 (0)) (by simp [half2_plan]); have e5 := hH.glob.fix (⟨pm, 3, none⟩, .int .i64 (0)) (by simp [half2_plan]); have e6 := hH.glob.fix (⟨pm, 4, none⟩, .int .i64 (-4294967296)) (by simp [half2_plan]); have e7 := hH.glob.fix (⟨pm, 5, none⟩, .int .i64 (0)) (by simp [half2_plan]); have e8 := hH.glob.fix (⟨pm, 6, none⟩, .int .i64 (0)) (by simp [half2_plan]); have e9 := hH.glob.fix (⟨pm, 7, none⟩, .int .i64 (0)) (by simp [half2_plan]); have e10 := hH.glob.fix (⟨pm, 8, none⟩, .int .i64 (4294967296)) (by simp [half2_plan]); simp [execOp, go_sem, e1, e2, e3, e4, e5, e6, e7, e8, e9, e10]))) ?_
          refine AllDo.cons 17 rfl (does_guarded rfl d14 (rfl : half2_sh pa pw pl pq pm pb a0_0 a0_1 a0_2 w8 U 14 = _) (by simp) (does_pure _ rfl rfl (fun γ L a w hH hA => by have e1 := R10 γ L a w hH; have e2 := hH.glob.fix (⟨pb, 0, none⟩, .int .i64 ((-a0_0))) (by simp [half2_plan]); have e3 := hH.glob.fix (⟨pb, 1, none⟩, .int .i64 ((-a0_1))) (by simp [half2_plan]); have e4 := hH.glob.fix (⟨pb, 2, none⟩, .int .i64 (a0_2)) (by simp [half2_plan]); simp [execOp, go_sem, e1, e2, e3, e4]))) ?_
          refine AllDo.cons 18 rfl (does_guarded rfl d14 (rfl : half2_sh pa pw pl pq pm pb a0_0 a0_1 a0_2 w8 U 14 = _) (by simp) (does_call hπ _ (false) rfl (by simp [half2_plan]) (calls_only (half2_cn pa pw pl pq pm pb a0_0 a0_1 a0_2 w8 U) (by simp [half2_plan])) rfl (fun γ L a w hH hA g hg hz => by have e1 := hH.at d15 (rfl : half2_sh pa pw pl pq pm pb a0_0 a0_1 a0_2 w8 U 15 = _) (hA ⟨15, .data⟩ (by simp) rfl); have e2 := hH.at d16 (rfl : half2_sh pa pw pl pq pm pb a0_0 a0_1 a0_2 w8 U 16 = _) (hA ⟨16, .data⟩ (by simp) rfl); have e3 := hH.at d17 (rfl : half2_sh pa pw pl pq pm pb a0_0 a0_1 a0_2 w8 U 17 = _) (hA ⟨17, .data⟩ (by simp) rfl); exact ⟨14, #[.pointer (some ⟨pw, 0, none⟩), .agg #[.int .i64 (-4294967296), .int .i64 (0), .int .i64 (0), .int .i64 (0), .int .i64 (-4294967296), .int .i64 (0), .int .i64 (0), .int .i64 (0), .int .i64 (4294967296)], .agg #[.int .i64 ((-a0_0)), .int .i64 ((-a0_1)), .int .i64 (a0_2)]], by simp [go_sem, e1, e2, e3], (vback_law pw 0 g (-4294967296) (0) (0) (0) (-4294967296) (0) (0) (0) (4294967296) ((-a0_0)) ((-a0_1)) (a0_2) w hg hz).mono (by rintro e W1 ⟨v0, v1, v2, g1, rfl, S, Z⟩; have h := S.out; rw [T0, T1, T2] at h; exact ⟨by rw [h.1, h.2.1, h.2.2.1]; rfl, g1, h.2.2.2, Z.out⟩)⟩))) ?_
          refine AllDo.cons 19 rfl (does_guarded rfl d14 (rfl : half2_sh pa pw pl pq pm pb a0_0 a0_1 a0_2 w8 U 14 = _) (by simp) (does_pure _ rfl rfl (fun γ L a w hH hA => by have e1 := R1 γ L a w hH; have e2 := hH.glob.fix (⟨pa, 0, none⟩, .int .i64 (a0_0)) (by simp [half2_plan]); have e3 := hH.glob.fix (⟨pa, 1, none⟩, .int .i64 (a0_1)) (by simp [half2_plan]); have e4 := hH.glob.fix (⟨pa, 2, none⟩, .int .i64 (a0_2)) (by simp [half2_plan]); simp [execOp, go_sem, e1, e2, e3, e4]))) ?_
          refine AllDo.cons 20 rfl (does_guarded rfl d14 (rfl : half2_sh pa pw pl pq pm pb a0_0 a0_1 a0_2 w8 U 14 = _) (by simp) (does_pure _ rfl rfl (fun γ L a w hH hA => by have e1 := hH.at d18 (rfl : half2_sh pa pw pl pq pm pb a0_0 a0_1 a0_2 w8 U 18 = _) (hA ⟨18, .data⟩ (by simp) rfl); have e2 := hH.at d19 (rfl : half2_sh pa pw pl pq pm pb a0_0 a0_1 a0_2 w8 U 19 = _) (hA ⟨19, .data⟩ (by simp) rfl); simp [execOp, go_sem, e1, e2]))) ?_
          refine AllDo.cons 21 rfl (does_pure _ rfl rfl (fun γ L a w hH hA => by have e1 := hH.at d14 (rfl : half2_sh pa pw pl pq pm pb a0_0 a0_1 a0_2 w8 U 14 = _) (hA ⟨14, .data⟩ (by simp) rfl); have e2 := hH.at d20 (rfl : half2_sh pa pw pl pq pm pb a0_0 a0_1 a0_2 w8 U 20 = _) (hA ⟨20, .data⟩ (by simp) rfl); simp [execOp, go_sem, e1, e2])) ?_
          exact AllDo.nil
        · intro γ a5 w5 L hL hLo hH
          have hL' : ∀ j, j < 22 → L j = true := fun j hj => hL j hj
          have ha := held_act hH hL (by kernel_rfl) (by kernel_rfl)
          have hG := hH.glob
          have hfl := hG.flagAll hπ (fun c hc => hL' c.1 (by simp only [half2_plan, List.mem_cons, List.not_mem_nil, or_false] at hc; rcases hc with rfl | rfl <;> simp))
          have c5 : w5.cell? ⟨pw, 0, none⟩ = some (.bool false) := hfl.1
          have f5 : w5.frozen? ⟨pw, 0, none⟩ = false := hfl.2
          have HB5 : Hid (Below w.heap.size w w5) := by
            have h : Leaves ⟨pw, 0, none⟩ w8 w5 := hG.leaves
            have h2 := h.below w8.heap.size w8 (Below.refl _ _) (by show _ ≤ pw; rw [HW8.out]; exact qw) (Nat.le_refl _)
            rw [HW8.out] at h2
            exact h2
          have yxa0 : w5.cell? ⟨pa, 0, none⟩ = some (.int .i64 a0_0) := hG.fix (⟨pa, 0, none⟩, .int .i64 (a0_0)) (by simp [half2_plan])
          have yxa1 : w5.cell? ⟨pa, 1, none⟩ = some (.int .i64 a0_1) := hG.fix (⟨pa, 1, none⟩, .int .i64 (a0_1)) (by simp [half2_plan])
          have yxa2 : w5.cell? ⟨pa, 2, none⟩ = some (.int .i64 a0_2) := hG.fix (⟨pa, 2, none⟩, .int .i64 (a0_2)) (by simp [half2_plan])
          have yxl0 : w5.cell? ⟨pl, 0, none⟩ = some (.int .i64 0) := hG.fix (⟨pl, 0, none⟩, .int .i64 (0)) (by simp [half2_plan])
          have yxl1 : w5.cell? ⟨pl, 1, none⟩ = some (.int .i64 4294967296) := hG.fix (⟨pl, 1, none⟩, .int .i64 (4294967296)) (by simp [half2_plan])
          have yxl2 : w5.cell? ⟨pl, 2, none⟩ = some (.int .i64 0) := hG.fix (⟨pl, 2, none⟩, .int .i64 (0)) (by simp [half2_plan])
          have yxl3 : w5.cell? ⟨pl, 3, none⟩ = some (.int .i64 0) := hG.fix (⟨pl, 3, none⟩, .int .i64 (0)) (by simp [half2_plan])
          have yxl4 : w5.cell? ⟨pl, 4, none⟩ = some (.int .i64 0) := hG.fix (⟨pl, 4, none⟩, .int .i64 (0)) (by simp [half2_plan])
          have yxl5 : w5.cell? ⟨pl, 5, none⟩ = some (.int .i64 0) := hG.fix (⟨pl, 5, none⟩, .int .i64 (0)) (by simp [half2_plan])
          have yxl6 : w5.cell? ⟨pl, 6, none⟩ = some (.int .i64 4294967296) := hG.fix (⟨pl, 6, none⟩, .int .i64 (4294967296)) (by simp [half2_plan])
          have yxl7 : w5.cell? ⟨pl, 7, none⟩ = some (.int .i64 0) := hG.fix (⟨pl, 7, none⟩, .int .i64 (0)) (by simp [half2_plan])
          have yxl8 : w5.cell? ⟨pl, 8, none⟩ = some (.int .i64 0) := hG.fix (⟨pl, 8, none⟩, .int .i64 (0)) (by simp [half2_plan])
          have yxl9 : w5.cell? ⟨pl, 9, none⟩ = some (.int .i64 0) := hG.fix (⟨pl, 9, none⟩, .int .i64 (0)) (by simp [half2_plan])
          have yxl10 : w5.cell? ⟨pl, 10, none⟩ = some (.int .i64 0) := hG.fix (⟨pl, 10, none⟩, .int .i64 (0)) (by simp [half2_plan])
          have yxl11 : w5.cell? ⟨pl, 11, none⟩ = some (.int .i64 4294967296) := hG.fix (⟨pl, 11, none⟩, .int .i64 (4294967296)) (by simp [half2_plan])
          have yxq0 : w5.cell? ⟨pq, 0, none⟩ = some (.int .i64 a0_0) := hG.fix (⟨pq, 0, none⟩, .int .i64 (a0_0)) (by simp [half2_plan])
          have yxq1 : w5.cell? ⟨pq, 1, none⟩ = some (.int .i64 (-a0_1)) := hG.fix (⟨pq, 1, none⟩, .int .i64 ((-a0_1))) (by simp [half2_plan])
          have yxq2 : w5.cell? ⟨pq, 2, none⟩ = some (.int .i64 (-a0_2)) := hG.fix (⟨pq, 2, none⟩, .int .i64 ((-a0_2))) (by simp [half2_plan])
          have yxq3 : w5.cell? ⟨pq, 3, none⟩ = some (.int .i64 (-a0_0)) := hG.fix (⟨pq, 3, none⟩, .int .i64 ((-a0_0))) (by simp [half2_plan])
          have yxq4 : w5.cell? ⟨pq, 4, none⟩ = some (.int .i64 a0_1) := hG.fix (⟨pq, 4, none⟩, .int .i64 (a0_1)) (by simp [half2_plan])
          have yxq5 : w5.cell? ⟨pq, 5, none⟩ = some (.int .i64 (-a0_2)) := hG.fix (⟨pq, 5, none⟩, .int .i64 ((-a0_2))) (by simp [half2_plan])
          have yxq6 : w5.cell? ⟨pq, 6, none⟩ = some (.int .i64 (-a0_0)) := hG.fix (⟨pq, 6, none⟩, .int .i64 ((-a0_0))) (by simp [half2_plan])
          have yxq7 : w5.cell? ⟨pq, 7, none⟩ = some (.int .i64 (-a0_1)) := hG.fix (⟨pq, 7, none⟩, .int .i64 ((-a0_1))) (by simp [half2_plan])
          have yxq8 : w5.cell? ⟨pq, 8, none⟩ = some (.int .i64 a0_2) := hG.fix (⟨pq, 8, none⟩, .int .i64 (a0_2)) (by simp [half2_plan])
          rw [ha]
          clear ha hH hG hL hL' hLo hπ hfl
          simp only [putAll, Act.put, List.setIfInBounds_toArray, List.set_cons_zero, List.set_cons_succ, shapeVal, Nat.zero_add, Nat.reduceAdd, half2_sh]
          go_wp2_with (fail)
          go_roundw
          case rel => exact ⟨3, by omega, by go_num, HB5.out, c5, f5, yxa0, yxa1, yxa2, yxl0, yxl1, yxl2, yxl3, yxl4, yxl5, yxl6, yxl7, yxl8, yxl9, yxl10, yxl11, yxq0, yxq1, yxq2, yxq3, yxq4, yxq5, yxq6, yxq7, yxq8⟩
          case measure => simp [intOf]
      | 3, _ =>
        go_wp2_with (fail)
        go_ret
        exact ⟨rfl, HB.out⟩

  · go_wp2_with (fail)
    refine (small_no a0_0 a0_1 a0_2 _ hin).mono ?_
    rintro e Vs ⟨rfl, hbs⟩
    have HB : Hid (Below w.heap.size w Vs) := below_step HB.out hbs
    clear hbs hin
    go_wp2_with (fail)
    go_ret
    exact ⟨rfl, HB.out⟩

/-! ### The row's step, after the guide's template -/
set_option maxRecDepth 100000 in
theorem lifted (os : Os) (started : os.Started) (H : Type) (enc : TypeId × Value → H) :
    ReturnsInHanded {} Try.checked os 6 .any (Rows.vecHalfSpec.pre6 enc Try.prog Try.f6 Rows.vecHalfRow.domain false) (Rows.vecHalfSpec.post enc Try.prog Try.f6 false true false false) := by
  refine returnsInHanded_of_change (C := Try.checked) own started (by kernel_rfl) Try.func6
    (ChangeSpec.witness6 (enc := enc) (C := Try.checked) false ⟨#[], #[.agg #[.int .i64 0, .int .i64 0, .int .i64 0]], []⟩ 8 (by kernel_rfl) (by kernel_rfl) (by kernel_rfl) (by kernel_rfl)) ?_
  intro W base args ds gs before hval0 hW hcnd _
  have hval : ∀ (j : Nat) t v, Try.f6.params[j]? = some t → args[j]? = some v → Value.okWide Try.prog W .any base t v := hval0
  have hW' := hW
  obtain ⟨p, q, hA0, hV, rfl, hfz, hnd⟩ := hW
  have hA : DataW.TrodAll enc Try.prog W 0 (fun _ => true) true Try.f6.params.toList args.toList ds p := hA0
  rw [Try.params6] at hA hval
  obtain ⟨v0, vs0, d0, ds0, p0, q0, hargs, rfl, rfl, h0, r0⟩ := trodAll_cons hA
  obtain ⟨rfl, rfl, rfl⟩ := trodAll_nil r0
  obtain rfl : args = #[v0] := by cases args; simp_all
  obtain ⟨rfl, rfl⟩ := trodVars_none hV
  obtain ⟨a0_0, a0_1, a0_2, rfl, rfl, rfl, w0_0, w0_1, w0_2⟩ := open_vec (hval 0 23 v0 rfl rfl) h0
  clear hA0 hval0
  simp only [List.append_nil] at hW'
  refine (walk a0_0 a0_1 a0_2 w0_0 w0_1 w0_2 W).mono fun e W' ⟨he, bel⟩ => ?_
  subst he
  exact ⟨_, rfl, _, _, _, [], [], [], hW', trodAll_mk1 (shut_bool Try.underlying4 _), (trodAll_cons_mk (shut_vec w0_0 w0_1 w0_2) trodAll_mk0), rfl, bel.frame _, fun h => by cases h⟩

theorem over : Rows.vecHalfRow.holds Try.pinned (OpenSpec.ofChange Rows.vecHalfSpec) :=
  OpenClaim.holds_of_wide 6 Try.f6 rfl rfl rfl rfl rfl rfl rfl ⟨rfl, rfl, rfl, rfl, rfl⟩ rfl rfl rfl rfl rfl (by kernel_rfl) Try.func6 (by kernel_rfl)
    (of_decide_eq_true (by kernel_rfl)) (by unfold Func.isWrapper; first | (rw [if_pos (by decide +kernel)]; kernel_rfl) | (rw [if_neg (by decide +kernel)]; exact ⟨rfl, rfl⟩))
    (fun os started H enc _ => lifted os started H enc)

end vecHalf

theorem vecHalf_holds : Rows.VecHalfSaid := vecHalf.over
#print axioms vecHalf_holds
end Go.Proofs.Ytbjjpccaiciahab
