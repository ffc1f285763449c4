/- The program's numbers of 128 bits (package fx, type wide): products, sums, sizes, quotients, roots. -/
import Derived.Test.YtocdompopadanaaDiv
namespace Go.Proofs.Ytocdompopadanaa
open Go.RowKit Fx

theorem i64_mul_lt (a b : Int) (ha0 : 0 ≤ a) (ha : a < 9223372036854775808) (hb0 : 0 ≤ b) (hb : b < 9223372036854775808) : 0 ≤ a * b ∧ a * b < 85070591730234615865843651857942052864 := by
  have h1 := Int.mul_nonneg ha0 hb0
  have h2 := Int.mul_le_mul (show a ≤ 9223372036854775807 by omega) (show b ≤ 9223372036854775807 by omega) hb0 (by omega)
  omega

set_option maxHeartbeats 1000000 in
theorem product_any (a b : Int) (w : World) (ha0 : -9223372036854775808 ≤ a) (ha : a < 9223372036854775808) (hb0 : -9223372036854775808 ≤ b) (hb : b < 9223372036854775808) :
    Calls Try.prog 90 #[.int .i64 a, .int .i64 b] w fun e w' => e = .returned (.agg #[.int .u64 (a * b / 18446744073709551616 % 18446744073709551616), .int .u64 (a * b % 18446744073709551616)]) ∧ Below w.heap.size w w' := by
  by_cases ga : a < 0
  · obtain ⟨ua, hua⟩ : ∃ u, u = a + 18446744073709551616 := ⟨_, rfl⟩
    have hwa : IntKind.u64.wrap a = ua := by rw [IntKind.wrap_u64]; omega
    have hu0 : 0 ≤ ua := by omega
    have hu1 : ua < 18446744073709551616 := by omega
    by_cases gb : b < 0
    · obtain ⟨ub, hub⟩ : ∃ u, u = b + 18446744073709551616 := ⟨_, rfl⟩
      have hwb : IntKind.u64.wrap b = ub := by rw [IntKind.wrap_u64]; omega
      have hv0 : 0 ≤ ub := by omega
      have hv1 : ub < 18446744073709551616 := by omega
      have hq : IntKind.u64.wrap (IntKind.u64.wrap (ua * ub / 18446744073709551616 - ub) - ua) = a * b / 18446744073709551616 % 18446744073709551616 := by
        rw [hua, hub, Int.add_mul, Int.mul_add, IntKind.wrap_u64, IntKind.wrap_u64]; omega
      have hm : ua * ub % 18446744073709551616 = a * b % 18446744073709551616 := by rw [hua, hub, Int.add_mul, Int.mul_add]; omega
      clear hua hub
      go_enter Try.func90, Try.ntmps90
      go_wp2_with (go_at_call 94; refine (mul64_any _ _ _ ?_ ?_ ?_ ?_).mono ?_; (omega); (omega); (omega); (omega); rintro e w' ⟨rfl, rfl⟩)
      go_returns
      exact ⟨rfl, by go_grown⟩
    · have hq : IntKind.u64.wrap (ua * b / 18446744073709551616 - b) = a * b / 18446744073709551616 % 18446744073709551616 := by
        rw [hua, Int.add_mul, IntKind.wrap_u64]; omega
      have hm : ua * b % 18446744073709551616 = a * b % 18446744073709551616 := by rw [hua, Int.add_mul]; omega
      clear hua
      go_enter Try.func90, Try.ntmps90
      go_wp2_with (go_at_call 94; refine (mul64_any _ _ _ ?_ ?_ ?_ ?_).mono ?_; (omega); (omega); (omega); (omega); rintro e w' ⟨rfl, rfl⟩)
      go_returns
      exact ⟨rfl, by go_grown⟩
  · by_cases gb : b < 0
    · obtain ⟨ub, hub⟩ : ∃ u, u = b + 18446744073709551616 := ⟨_, rfl⟩
      have hwb : IntKind.u64.wrap b = ub := by rw [IntKind.wrap_u64]; omega
      have hv0 : 0 ≤ ub := by omega
      have hv1 : ub < 18446744073709551616 := by omega
      have hq : IntKind.u64.wrap (a * ub / 18446744073709551616 - a) = a * b / 18446744073709551616 % 18446744073709551616 := by
        rw [hub, Int.mul_add, IntKind.wrap_u64]; omega
      have hm : a * ub % 18446744073709551616 = a * b % 18446744073709551616 := by rw [hub, Int.mul_add]; omega
      clear hub
      go_enter Try.func90, Try.ntmps90
      go_wp2_with (go_at_call 94; refine (mul64_any _ _ _ ?_ ?_ ?_ ?_).mono ?_; (omega); (omega); (omega); (omega); rintro e w' ⟨rfl, rfl⟩)
      go_returns
      exact ⟨rfl, by go_grown⟩
    · have hp := i64_mul_lt a b (by omega) ha (by omega) hb
      have hq : a * b / 18446744073709551616 % 18446744073709551616 = a * b / 18446744073709551616 := by omega
      go_enter Try.func90, Try.ntmps90
      go_wp2_with (go_at_call 94; refine (mul64_any _ _ _ ?_ ?_ ?_ ?_).mono ?_; (omega); (omega); (omega); (omega); rintro e w' ⟨rfl, rfl⟩)
      go_returns
      exact ⟨by rw [hq], by go_grown⟩

set_option maxHeartbeats 1000000 in
theorem plus_any (X Y : Int) (w : World) :
    Calls Try.prog 89 #[.agg #[.int .u64 (X / 18446744073709551616 % 18446744073709551616), .int .u64 (X % 18446744073709551616)], .agg #[.int .u64 (Y / 18446744073709551616 % 18446744073709551616), .int .u64 (Y % 18446744073709551616)]] w fun e w' =>
      e = .returned (.agg #[.int .u64 ((X + Y) / 18446744073709551616 % 18446744073709551616), .int .u64 ((X + Y) % 18446744073709551616)]) ∧ Below w.heap.size w w' := by
  obtain ⟨l1, hl1⟩ : ∃ u, u = X % 18446744073709551616 := ⟨_, rfl⟩
  obtain ⟨l2, hl2⟩ : ∃ u, u = Y % 18446744073709551616 := ⟨_, rfl⟩
  obtain ⟨h1, hh1⟩ : ∃ u, u = X / 18446744073709551616 % 18446744073709551616 := ⟨_, rfl⟩
  obtain ⟨h2, hh2⟩ : ∃ u, u = Y / 18446744073709551616 % 18446744073709551616 := ⟨_, rfl⟩
  rw [← hl1, ← hl2, ← hh1, ← hh2]
  have e1 : (h1 + h2 + (l1 + l2) / 18446744073709551616) % 18446744073709551616 = (X + Y) / 18446744073709551616 % 18446744073709551616 := by omega
  have e2 : (l1 + l2) % 18446744073709551616 = (X + Y) % 18446744073709551616 := by omega
  have r1 := fun w => add64_run l1 l2 0 w (by omega) (by omega) (by omega) (by omega)
  have r2 := fun w => add64_run h1 h2 ((l1 + l2) / 18446744073709551616) w (by omega) (by omega) (by omega) (by omega)
  clear hl1 hl2 hh1 hh2
  go_enter Try.func89, Try.ntmps89
  go_wp2
  go_returns
  exact ⟨rfl, by go_grown⟩

theorem ret_int {k : IntKind} {a b : Int} (h : a = b) : Ending.returned (.int k a) = .returned (.int k b) := by rw [h]
theorem ret_bool {a b : Bool} (h : a = b) : Ending.returned (.bool a) = .returned (.bool b) := by rw [h]
theorem ret_both {k : IntKind} {a b : Int} {c d : Bool} (h : a = b) (h' : c = d) : Ending.returned (.tuple #[.int k a, .bool c]) = .returned (.tuple #[.int k b, .bool d]) := by rw [h, h']

theorem by_one_or (X : Int) : bits .or .u64 (IntKind.u64.wrap (X / 18446744073709551616 % 18446744073709551616 * 4294967296)) (X % 18446744073709551616 / 4294967296) = X / 4294967296 % 18446744073709551616 := by
  rw [IntKind.wrap_u64, u64_or _ _ (by omega) (by omega) (by omega) (by omega), nat_join 32 _ _ (by omega) (by omega)]
  omega

set_option maxHeartbeats 1000000 in
theorem byOne_any (X : Int) (w : World) (h0 : -170141183460469231731687303715884105728 ≤ X) (h1 : X < 170141183460469231731687303715884105728) :
    Calls Try.prog 91 #[.agg #[.int .u64 (X / 18446744073709551616 % 18446744073709551616), .int .u64 (X % 18446744073709551616)]] w fun e w' =>
      e = .returned (.tuple #[.int .i64 (wrap64 (X / 4294967296)), .bool (decide (-9223372036854775808 ≤ X / 4294967296 ∧ X / 4294967296 < 9223372036854775808))]) ∧ Below w.heap.size w w' := by
  go_enter Try.func91, Try.ntmps91
  go_wp2
  go_returns
  refine ⟨ret_both ?_ ?_, by go_grown⟩
  · rw [by_one_or]; unfold wrap64; omega
  · rw [by_one_or, Bool.eq_iff_iff, beq_iff_eq, decide_eq_true_eq]; unfold wrap64; omega

end Go.Proofs.Ytocdompopadanaa
