/- The program's numbers of 128 bits (package fx, type wide): products, sums, sizes, quotients, roots. -/
import Derived.Test.YtccdgpijjgeedaaDiv
namespace Go.Proofs.Ytccdgpijjgeedaa
open Go.RowKit Fx

theorem i64_mul_lt (a b : Int) (ha0 : 0 ≤ a) (ha : a < 9223372036854775808) (hb0 : 0 ≤ b) (hb : b < 9223372036854775808) : 0 ≤ a * b ∧ a * b < 85070591730234615865843651857942052864 := by
  have h1 := Int.mul_nonneg ha0 hb0
  have h2 := Int.mul_le_mul (show a ≤ 9223372036854775807 by omega) (show b ≤ 9223372036854775807 by omega) hb0 (by omega)
  omega

theorem ret_int {k : IntKind} {a b : Int} (h : a = b) : Ending.returned (.int k a) = .returned (.int k b) := by rw [h]
theorem ret_bool {a b : Bool} (h : a = b) : Ending.returned (.bool a) = .returned (.bool b) := by rw [h]
theorem ret_both {k : IntKind} {a b : Int} {c d : Bool} (h : a = b) (h' : c = d) : Ending.returned (.tuple #[.int k a, .bool c]) = .returned (.tuple #[.int k b, .bool d]) := by rw [h, h']

theorem by_one_or (X : Int) : bits .or .u64 (IntKind.u64.wrap (X / 18446744073709551616 % 18446744073709551616 * 4294967296)) (X % 18446744073709551616 / 4294967296) = X / 4294967296 % 18446744073709551616 := by
  rw [IntKind.wrap_u64, u64_or _ _ (by omega) (by omega) (by omega) (by omega), nat_join 32 _ _ (by omega) (by omega)]
  omega

end Go.Proofs.Ytccdgpijjgeedaa
