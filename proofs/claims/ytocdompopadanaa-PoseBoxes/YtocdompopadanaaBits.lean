/- What math/bits' own text does in this program: Mul64, Add64, Sub64, Len64, LeadingZeros64, each for every uint64. -/
import Derived.Test.YtocdompopadanaaProg
import Derived.WalkKit
import Derived.Laws.MathBits
import Derived.Laws.Externs
import Derived.Handy
namespace Go.Proofs.Ytocdompopadanaa
open Go.RowKit

set_option maxHeartbeats 1000000 in
theorem mul64_any (x y : Int) (w : World) (hx0 : 0 ≤ x) (hx : x < 18446744073709551616) (hy0 : 0 ≤ y) (hy : y < 18446744073709551616) :
    Calls Try.prog 94 #[.int .u64 x, .int .u64 y] w fun e w' => e = .returned (.tuple #[.int .u64 (x * y / 18446744073709551616), .int .u64 (x * y % 18446744073709551616)]) ∧ w' = w := by
  have Ha : Hid (_ = _) := mul64_arith x y hx0 hx hy0 hy
  have hmx := and_low32 x hx0 hx
  have hmy := and_low32 y hy0 hy
  have hmt : Hid (∀ z : Int, bits .and .u64 (z % 18446744073709551616) 4294967295 = z % 18446744073709551616 % 4294967296) := fun z => and_low32 _ (by omega) (by omega)
  go_enter Try.func94, Try.ntmps94
  go_wp2
  simp only [IntKind.wrap_u64, hmt.out, Ha.out]
  go_ret2
  exact ⟨rfl, rfl⟩

theorem add64_run (x y c : Int) (w : World) (hx0 : 0 ≤ x) (hy0 : 0 ≤ y) (hc0 : 0 ≤ c) (hc : c ≤ 1) :
    (callFunc 93 #[.int .u64 x, .int .u64 y, .int .u64 c]).run Try.prog w =
      .ok (.value (.tuple #[.int .u64 ((x + y + c) % 18446744073709551616), .int .u64 ((x + y + c) / 18446744073709551616)])) w := by
  rw [run_callFunc_extern Try.func93 (by kernel_rfl) (by kernel_rfl) (by kernel_rfl) (e := add64Entry) (by kernel_rfl), run_add64 x y c hx0 hy0 hc0 hc]
  rfl

theorem sub64_entry {P : Program} (x y b : Nat) (hb : b ≤ 1) (w : World) :
    ((Extern.MathBitsCarry.rows[1]'(by decide)).2 #[.int .u64 x, .int .u64 y, .int .u64 b]).run P w =
      .ok (.tuple #[.int .u64 (((x + 18446744073709551616 - y - b) % 18446744073709551616 : Nat) : Int), .int .u64 ((if x < y + b then 1 else 0 : Nat) : Int)]) w := by
  have : b = 0 ∨ b = 1 := by omega
  rcases this with rfl | rfl <;> rfl

theorem len_fin (x y B : Int) (b : Nat) (hB : B = (b : Int)) (hb : b ≤ 56) (hy : y.toNat = x.toNat / 2 ^ b) (h : b = 0 ∨ y.toNat ≠ 0) (h256 : y.toNat < 256) :
    wrap64 (B + wrap64 (bitLen y.toNat)) = bitLen x.toNat := by
  have l := bitLen_le8 y.toNat h256
  have e : bitLen x.toNat = b + bitLen y.toNat := by
    rcases h with rfl | h
    · rw [hy]; simp
    · rw [hy] at h ⊢; exact bitLen_shift _ _ h
  rw [e, hB]
  unfold wrap64
  omega

theorem bitLen_le64 (x : Int) (hx0 : 0 ≤ x) (hx : x < 18446744073709551616) : bitLen x.toNat ≤ 64 := by
  by_cases h : x.toNat = 0
  · rw [h]; decide
  · have := (bitLen_spec x.toNat).2 h
    by_cases g : bitLen x.toNat ≤ 64
    · exact g
    · exfalso
      have := Nat.pow_le_pow_right (n := 2) (by omega) (show 64 ≤ bitLen x.toNat - 1 by omega)
      omega

end Go.Proofs.Ytocdompopadanaa
