/- What math/bits' own text does in this program: Mul64, Add64, Sub64, Len64, LeadingZeros64, each for every uint64. -/
import Derived.Test.YtccdgpijjgeedaaProg
import Derived.WalkKit
import Derived.Laws.MathBits
import Derived.Laws.Externs
import Derived.Handy
namespace Go.Proofs.Ytccdgpijjgeedaa
open Go.RowKit

theorem sub64_entry {P : Program} (x y b : Nat) (hb : b ≤ 1) (w : World) :
    ((Extern.MathBitsCarry.rows[1]'(by decide)).2 #[.int .u64 x, .int .u64 y, .int .u64 b]).run P w =
      .ok (.tuple #[.int .u64 (((x + 18446744073709551616 - y - b) % 18446744073709551616 : Nat) : Int), .int .u64 ((if x < y + b then 1 else 0 : Nat) : Int)]) w := by
  have : b = 0 ∨ b = 1 := by omega
  rcases this with rfl | rfl <;> rfl

theorem len_fin (x y B : Int) (b : Nat) (hB : B = (b : Int)) (hb : b ≤ 56) (hy : y.toNat = x.toNat / 2 ^ b) (h : b = 0 ∨ y.toNat ≠ 0) (h256 : y.toNat < 256) :
    wrap64 (B + wrap64 (bitLen y.toNat)) = bitLen x.toNat := by
  have l := bitLen_le8 y.toNat h256
  have e : bitLen x.toNat = b + bitLen y.toNat := by
    rcases h with rfl | h
    · rw [hy]; simp
    · rw [hy] at h ⊢; exact bitLen_shift _ _ h
  rw [e, hB]
  unfold wrap64
  omega

theorem bitLen_le64 (x : Int) (hx0 : 0 ≤ x) (hx : x < 18446744073709551616) : bitLen x.toNat ≤ 64 := by
  by_cases h : x.toNat = 0
  · rw [h]; decide
  · have := (bitLen_spec x.toNat).2 h
    by_cases g : bitLen x.toNat ≤ 64
    · exact g
    · exfalso
      have := Nat.pow_le_pow_right (n := 2) (by omega) (show 64 ≤ bitLen x.toNat - 1 by omega)
      omega

end Go.Proofs.Ytccdgpijjgeedaa
