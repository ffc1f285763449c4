/- What math/bits' own text does in this program: Mul64, Add64, Sub64, Len64, LeadingZeros64, each for every uint64. -/
import Derived.Test.YtiicpdlaaklahaaProg
import Derived.WalkKit
import Derived.Laws.MathBits
import Derived.Laws.Externs
import Derived.Handy
namespace Go.Proofs.Ytiicpdlaaklahaa
open Go.RowKit

set_option maxHeartbeats 1000000 in
theorem mul64_any (x y : Int) (w : World) (hx0 : 0 ≤ x) (hx : x < 18446744073709551616) (hy0 : 0 ≤ y) (hy : y < 18446744073709551616) :
    Calls Try.prog 82 #[.int .u64 x, .int .u64 y] w fun e w' => e = .returned (.tuple #[.int .u64 (x * y / 18446744073709551616), .int .u64 (x * y % 18446744073709551616)]) ∧ w' = w := by
  have Ha : Hid (_ = _) := mul64_arith x y hx0 hx hy0 hy
  have hmx := and_low32 x hx0 hx
  have hmy := and_low32 y hy0 hy
  have hmt : Hid (∀ z : Int, bits .and .u64 (z % 18446744073709551616) 4294967295 = z % 18446744073709551616 % 4294967296) := fun z => and_low32 _ (by omega) (by omega)
  go_enter Try.func82, Try.ntmps82
  go_wp2
  simp only [IntKind.wrap_u64, hmt.out, Ha.out]
  go_ret2
  exact ⟨rfl, rfl⟩

theorem sub64_entry {P : Program} (x y b : Nat) (hb : b ≤ 1) (w : World) :
    ((Extern.MathBitsCarry.rows[1]'(by decide)).2 #[.int .u64 x, .int .u64 y, .int .u64 b]).run P w =
      .ok (.tuple #[.int .u64 (((x + 18446744073709551616 - y - b) % 18446744073709551616 : Nat) : Int), .int .u64 ((if x < y + b then 1 else 0 : Nat) : Int)]) w := by
  have : b = 0 ∨ b = 1 := by omega
  rcases this with rfl | rfl <;> rfl

theorem sub64_run (x y b : Int) (w : World) (hx0 : 0 ≤ x) (hx : x < 18446744073709551616) (hy0 : 0 ≤ y) (hy : y < 18446744073709551616) (hb0 : 0 ≤ b) (hb : b ≤ 1) :
    (callFunc 86 #[.int .u64 x, .int .u64 y, .int .u64 b]).run Try.prog w =
      .ok (.value (.tuple #[.int .u64 ((x - y - b) % 18446744073709551616), .int .u64 (if x < y + b then 1 else 0)])) w := by
  obtain ⟨x, rfl⟩ := Int.eq_ofNat_of_zero_le hx0
  obtain ⟨y, rfl⟩ := Int.eq_ofNat_of_zero_le hy0
  obtain ⟨b, rfl⟩ := Int.eq_ofNat_of_zero_le hb0
  rw [run_callFunc_extern Try.func86 (by kernel_rfl) (by kernel_rfl) (by kernel_rfl) (e := (Extern.MathBitsCarry.rows[1]'(by decide)).2) (by kernel_rfl), sub64_entry x y b (by omega)]
  simp only [Result.andThen]
  have e1 : (((x + 18446744073709551616 - y - b) % 18446744073709551616 : Nat) : Int) = ((x : Int) - y - b) % 18446744073709551616 := by omega
  have e2 : (((if x < y + b then 1 else 0 : Nat)) : Int) = (if (x : Int) < y + b then 1 else 0) := by split <;> split <;> omega
  rw [e1, e2]

theorem len_fin (x y B : Int) (b : Nat) (hB : B = (b : Int)) (hb : b ≤ 56) (hy : y.toNat = x.toNat / 2 ^ b) (h : b = 0 ∨ y.toNat ≠ 0) (h256 : y.toNat < 256) :
    wrap64 (B + wrap64 (bitLen y.toNat)) = bitLen x.toNat := by
  have l := bitLen_le8 y.toNat h256
  have e : bitLen x.toNat = b + bitLen y.toNat := by
    rcases h with rfl | h
    · rw [hy]; simp
    · rw [hy] at h ⊢; exact bitLen_shift _ _ h
  rw [e, hB]
  unfold wrap64
  omega

set_option maxRecDepth 100000 in
set_option maxHeartbeats 1000000 in
theorem len64_any (x : Int) (w : World) (hx0 : 0 ≤ x) (hx : x < 18446744073709551616) :
    Calls Try.prog 88 #[.int .u64 x] w fun e w' => e = .returned (.int .i64 (bitLen x.toNat)) ∧ w' = w := by
  go_enter Try.func88, Try.ntmps88
  go_wp2
  all_goals (go_ret; refine ⟨congrArg Ending.returned (congrArg (Value.int IntKind.i64) ?_), rfl⟩; rw [len8tab_get])
  · exact len_fin x _ _ 56 rfl (by omega) (by omega) (Or.inr (by omega)) (by omega)
  · exact len_fin x _ _ 48 rfl (by omega) (by omega) (Or.inr (by omega)) (by omega)
  · exact len_fin x _ _ 40 rfl (by omega) (by omega) (Or.inr (by omega)) (by omega)
  · exact len_fin x _ _ 32 rfl (by omega) (by omega) (Or.inr (by omega)) (by omega)
  · exact len_fin x _ _ 24 rfl (by omega) (by omega) (Or.inr (by omega)) (by omega)
  · exact len_fin x _ _ 16 rfl (by omega) (by omega) (Or.inr (by omega)) (by omega)
  · exact len_fin x _ _ 8 rfl (by omega) (by omega) (Or.inr (by omega)) (by omega)
  · simpa using len_fin x x 0 0 rfl (by omega) (by simp) (Or.inl rfl) (by omega)

theorem bitLen_le64 (x : Int) (hx0 : 0 ≤ x) (hx : x < 18446744073709551616) : bitLen x.toNat ≤ 64 := by
  by_cases h : x.toNat = 0
  · rw [h]; decide
  · have := (bitLen_spec x.toNat).2 h
    by_cases g : bitLen x.toNat ≤ 64
    · exact g
    · exfalso
      have := Nat.pow_le_pow_right (n := 2) (by omega) (show 64 ≤ bitLen x.toNat - 1 by omega)
      omega

theorem lz64_any (x : Int) (w : World) (hx0 : 0 ≤ x) (hx : x < 18446744073709551616) :
    Calls Try.prog 87 #[.int .u64 x] w fun e w' => e = .returned (.int .i64 (64 - (bitLen x.toNat : Int))) ∧ w' = w := by
  have l := bitLen_le64 x hx0 hx
  go_enter Try.func87, Try.ntmps87
  go_wp2_with (go_at_call 88; refine (len64_any x _ hx0 hx).mono ?_; rintro e w' ⟨rfl, rfl⟩)
  go_ret
  exact ⟨rfl, rfl⟩
end Go.Proofs.Ytiicpdlaaklahaa
