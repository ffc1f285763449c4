/- math/bits.Div64's own text in this program: for every high word below a divisor of less than 2^62 it returns quotient and rest. -/
import Derived.Test.YtccdgpijjgeedaaBits
import Derived.Test.YtccdgpijjgeedaaMath
import Derived.Laws.BitsAllLaws
import Derived.WalkLawsBesides
namespace Go.Proofs.Ytccdgpijjgeedaa
open Go.RowKit Fx

theorem norm_setup (hi lo y : Int) (s : Nat) (hs : (64 : Int) - (bitLen y.toNat : Int) = s) (hh0 : 1 ≤ hi) (hh : hi < y) (hl0 : 0 ≤ lo) (hl : lo < 18446744073709551616) (hy : y < 4611686018427387904) :
    1 ≤ s ∧ s ≤ 63 ∧ ∃ Y y1 y0 U1 L u1 u0 : Int,
      IntKind.u64.wrap (y * 2 ^ s) = Y ∧ Y / 4294967296 = y1 ∧ bits .and .u64 Y 4294967295 = y0 ∧ Y = y1 * 4294967296 + y0 ∧ 0 ≤ y0 ∧ y0 < 4294967296 ∧ 2147483648 ≤ y1 ∧ y1 < 4294967296 ∧
      bits .or .u64 (IntKind.u64.wrap (hi * 2 ^ s)) (lo / 2 ^ (64 - s)) = U1 ∧ 0 ≤ U1 ∧ U1 < Y ∧
      IntKind.u64.wrap (lo * 2 ^ s) = L ∧ L / 4294967296 = u1 ∧ bits .and .u64 L 4294967295 = u0 ∧ 0 ≤ u1 ∧ u1 < 4294967296 ∧ 0 ≤ u0 ∧ u0 < 4294967296 ∧
      Y = y * 2 ^ s ∧ (hi * 18446744073709551616 + lo) * 2 ^ s = U1 * 18446744073709551616 + u1 * 4294967296 + u0 := by
  obtain ⟨b1, b2⟩ := bitLen_spec y.toNat
  have b2 := b2 (by omega)
  generalize hb : bitLen y.toNat = b at *
  have hb62 : b ≤ 62 := by
    by_cases g : b ≤ 62
    · exact g
    · exfalso
      have := Nat.pow_le_pow_right (n := 2) (by omega) (show 62 ≤ b - 1 by omega)
      omega
  have hb1 : 1 ≤ b := by
    rcases Nat.eq_zero_or_pos b with h0 | h0
    · rw [h0] at b1; simp at b1; omega
    · exact h0
  have hs1 : 1 ≤ s := by omega
  have hs2 : s ≤ 63 := by omega
  refine ⟨hs1, hs2, ?_⟩
  have p1 : (2 : Nat) ^ (b - 1) * 2 ^ s = 9223372036854775808 := by rw [← Nat.pow_add, show b - 1 + s = 63 by omega]
  have p2 : (2 : Nat) ^ b * 2 ^ s = 18446744073709551616 := by rw [← Nat.pow_add, show b + s = 64 by omega]
  have p3 : (2 : Nat) ^ (64 - s) * 2 ^ s = 18446744073709551616 := by rw [← Nat.pow_add, show 64 - s + s = 64 by omega]
  have hp : 0 < (2 : Nat) ^ s := Nat.two_pow_pos s
  have hp' : 0 < (2 : Nat) ^ (64 - s) := Nat.two_pow_pos _
  obtain ⟨Y, rfl⟩ := Int.eq_ofNat_of_zero_le (show 0 ≤ y by omega)
  obtain ⟨H, rfl⟩ := Int.eq_ofNat_of_zero_le (show 0 ≤ hi by omega)
  obtain ⟨L, rfl⟩ := Int.eq_ofNat_of_zero_le hl0
  simp only [Int.toNat_natCast] at b1 b2
  have q1 : 9223372036854775808 ≤ Y * 2 ^ s := by rw [← p1]; exact Nat.mul_le_mul_right _ b2
  have q2 : Y * 2 ^ s < 18446744073709551616 := by rw [← p2]; exact Nat.mul_lt_mul_of_pos_right b1 hp
  have q3 : H * 2 ^ s + 2 ^ s ≤ Y * 2 ^ s := by rw [← Nat.succ_mul]; exact Nat.mul_le_mul_right _ (by omega)
  have c1 : ((Y : Int) * 2 ^ s) = ((Y * 2 ^ s : Nat) : Int) := by simp
  have c2 : ((H : Int) * 2 ^ s) = ((H * 2 ^ s : Nat) : Int) := by simp
  have c3 : ((L : Int) * 2 ^ s) = ((L * 2 ^ s : Nat) : Int) := by simp
  have c4 : ((L : Int) / 2 ^ (64 - s)) = ((L / 2 ^ (64 - s) : Nat) : Int) := by simp
  have d1 : L / 2 ^ (64 - s) < 2 ^ s := by
    rw [Nat.div_lt_iff_lt_mul hp', Nat.mul_comm, p3]; omega
  have d2 : L * 2 ^ s = L / 2 ^ (64 - s) * 18446744073709551616 + L * 2 ^ s % 18446744073709551616 := by
    have e := Nat.div_add_mod L (2 ^ (64 - s))
    have m : L % 2 ^ (64 - s) * 2 ^ s < 18446744073709551616 := by rw [← p3]; exact Nat.mul_lt_mul_of_pos_right (Nat.mod_lt _ hp') hp
    have e2 : L * 2 ^ s = L / 2 ^ (64 - s) * 18446744073709551616 + L % 2 ^ (64 - s) * 2 ^ s := by
      have : L * 2 ^ s = (2 ^ (64 - s) * (L / 2 ^ (64 - s)) + L % 2 ^ (64 - s)) * 2 ^ s := by rw [e]
      rw [this, Nat.add_mul, Nat.mul_right_comm, p3, Nat.mul_comm 18446744073709551616]
    omega
  have hor : bits .or .u64 (IntKind.u64.wrap ((H : Int) * 2 ^ s)) ((L : Int) / 2 ^ (64 - s)) = ((H * 2 ^ s + L / 2 ^ (64 - s) : Nat) : Int) := by
    rw [IntKind.wrap_u64, c2, c4, show ((H * 2 ^ s : Nat) : Int) % 18446744073709551616 = ((H * 2 ^ s : Nat) : Int) by omega, u64_or_nat _ _ (by omega) (by omega), nat_join s _ _ (Nat.mul_mod_left _ _) d1]
  have htot : ((H : Int) * 18446744073709551616 + L) * 2 ^ s = ((H * 2 ^ s : Nat) : Int) * 18446744073709551616 + ((L * 2 ^ s : Nat) : Int) := by
    rw [← c2, ← c3, Int.add_mul, Int.mul_right_comm]
  rw [hor, htot, c1, c3]
  generalize Y * 2 ^ s = A at *
  generalize H * 2 ^ s = B at *
  generalize L * 2 ^ s = C at *
  generalize L / 2 ^ (64 - s) = D at *
  have wA : IntKind.u64.wrap (A : Int) = (A : Int) := by rw [IntKind.wrap_u64]; omega
  have wC : IntKind.u64.wrap (C : Int) = ((C % 18446744073709551616 : Nat) : Int) := by rw [IntKind.wrap_u64]; omega
  have aA := and_low32 (A : Int) (by omega) (by omega)
  have aC := and_low32 ((C % 18446744073709551616 : Nat) : Int) (by omega) (by omega)
  rw [wA, wC]
  exact ⟨A, _, _, _, _, _, _, rfl, rfl, aA, by omega, by omega, by omega, by omega, by omega, rfl, by omega, by omega, rfl, rfl, aC, by omega, by omega, by omega, by omega, rfl, by omega⟩

end Go.Proofs.Ytccdgpijjgeedaa
