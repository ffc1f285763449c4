/- Inertia: plain numbers. -/
import Derived.Test.YtccdgpijjgeedaaSMath2
import Derived.Test.YtccdgpijjgeedaaMath
namespace Go.Proofs.Ytccdgpijjgeedaa
set_option linter.unusedVariables false
open Fx

def sqM (m h : Int) : Int := m * (h * h / 4294967296) / 4294967296
def ballI (m r : Int) : Int := sqM m r * 2 / 5
def boxI (m b c : Int) : Int := (sqM m b + sqM m c) / 3
theorem sq_in {h : Int} (h0 : 0 ≤ h) (h1 : h ≤ 137438953472) : 0 ≤ h * h ∧ h * h ≤ 18889465931478580854784 ∧ 0 ≤ h * h / 4294967296 ∧ h * h / 4294967296 ≤ 4398046511104 := by
  have a := Int.mul_nonneg h0 h0
  have b := Int.mul_le_mul h1 h1 h0 (by decide)
  have : (137438953472 : Int) * 137438953472 = 18889465931478580854784 := by decide
  generalize h * h = q at *
  omega
theorem sqM_in {m h : Int} (m0 : 0 ≤ m) (m1 : m ≤ 1099511627776) (h0 : 0 ≤ h) (h1 : h ≤ 137438953472) : 0 ≤ sqM m h ∧ sqM m h ≤ 1125899906842624 := by
  obtain ⟨_, _, a, b⟩ := sq_in h0 h1
  unfold sqM
  generalize h * h / 4294967296 = q at *
  have c := Int.mul_nonneg m0 a
  have d := Int.mul_le_mul m1 b a (by decide)
  have : (1099511627776 : Int) * 4398046511104 = 4835703278458516698824704 := by decide
  generalize m * q = s at *
  omega
theorem great_no {n : Int} (h : 0 ≤ n) (k : n ≤ 4611686018427387903) : great n = false := by unfold great; simp; omega
theorem told_some {n : Int} (h : 0 ≤ n) (k : n ≤ 4611686018427387903) : told n = some n := by unfold told; rw [great_no h k]; rfl
theorem mul_sq {h : Int} (h0 : 0 ≤ h) (h1 : h ≤ 137438953472) : mul h h = some (h * h / 4294967296) := by
  obtain ⟨_, _, a, b⟩ := sq_in h0 h1
  unfold mul
  rw [great_no h0 (by omega)]
  simp only [Bool.or_self, Bool.false_eq_true, if_false]
  exact told_some a (by omega)
theorem mul_sqM {m h : Int} (m0 : 0 ≤ m) (m1 : m ≤ 1099511627776) (h0 : 0 ≤ h) (h1 : h ≤ 137438953472) : mul m (h * h / 4294967296) = some (sqM m h) := by
  obtain ⟨_, _, a, b⟩ := sq_in h0 h1
  obtain ⟨c, d⟩ := sqM_in m0 m1 h0 h1
  unfold mul
  rw [great_no m0 (by omega), great_no a (by omega)]
  simp only [Bool.or_self, Bool.false_eq_true, if_false]
  exact told_some (n := sqM m h) c (by omega)
theorem ratio_ball {s : Int} (h0 : 0 ≤ s) (h1 : s ≤ 1125899906842624) : ratio s 2 5 = some (s * 2 / 5) := by
  unfold ratio
  rw [great_no h0 (by omega), great_no (n := 2) (by omega) (by omega), great_no (n := 5) (by omega) (by omega)]
  simp only [Bool.or_self, Bool.false_eq_true, if_false]
  rw [show Fx.fl (s * 2) 5 = s * 2 / 5 by simp [Fx.fl]]
  exact told_some (by omega) (by omega)
theorem add_box {a b : Int} (h0 : 0 ≤ a) (h1 : a ≤ 1125899906842624) (k0 : 0 ≤ b) (k1 : b ≤ 1125899906842624) : add a b = some (a + b) := by
  unfold add
  rw [great_no h0 (by omega), great_no k0 (by omega)]
  simp only [Bool.or_self, Bool.false_eq_true, if_false]
  exact told_some (by omega) (by omega)
theorem ratio_box {s : Int} (h0 : 0 ≤ s) (h1 : s ≤ 2251799813685248) : ratio s 1 3 = some (s / 3) := by
  unfold ratio
  rw [great_no h0 (by omega), great_no (n := 1) (by omega) (by omega), great_no (n := 3) (by omega) (by omega)]
  simp only [Bool.or_self, Bool.false_eq_true, if_false]
  rw [show Fx.fl (s * 1) 3 = s / 3 by simp [Fx.fl]]
  exact told_some (by omega) (by omega)
theorem sqM_mono {m n h k : Int} (m0 : 0 ≤ m) (mn : m ≤ n) (h0 : 0 ≤ h) (hk : h ≤ k) : sqM m h ≤ sqM n k := by
  unfold sqM
  have a : h * h ≤ k * k := Int.mul_le_mul hk hk h0 (by omega)
  have a0 : 0 ≤ h * h := Int.mul_nonneg h0 h0
  have b : h * h / 4294967296 ≤ k * k / 4294967296 := Int.ediv_le_ediv (by decide) a
  have b0 : 0 ≤ h * h / 4294967296 := by omega
  exact Int.ediv_le_ediv (by decide) (Int.mul_le_mul mn b b0 (by omega))
end Go.Proofs.Ytccdgpijjgeedaa
