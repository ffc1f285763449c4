/- The whole square root of a number of 128 bits, down (package fx, wide.root). -/
import Derived.Test.YtccdgpijjgeedaaBy
namespace Go.Proofs.Ytccdgpijjgeedaa
open Go.RowKit Fx

theorem no_or {a b : Int} {c : Bool} (h : ¬ a < b) : (decide (a < b) || c) = c := by simp [h]

/-- Half way down: n is a root's upper places; the lowest k places are open. -/
def RInv (X n : Int) (k : Nat) : Prop := n.toNat % 2 ^ k = 0 ∧ n * n ≤ X ∧ X < (n + 2 ^ k) * (n + 2 ^ k) ∧ 0 ≤ n ∧ n + 2 ^ k ≤ 18446744073709551616

theorem rinv_start {X : Int} {n : Nat} (h0 : 0 ≤ X) (hn : n ≤ 127) (h : X < 2 ^ n) : RInv X 0 ((n + 1) / 2) := by
  refine ⟨by simp, by simpa using h0, ?_, by omega, ?_⟩
  · rw [Int.zero_add, ← Int.pow_add]
    have : (2 : Int) ^ n ≤ 2 ^ ((n + 1) / 2 + (n + 1) / 2) := by
      exact_mod_cast Nat.pow_le_pow_right (n := 2) (by omega) (show n ≤ (n + 1) / 2 + (n + 1) / 2 by omega)
    omega
  · rw [Int.zero_add]
    have : (2 : Int) ^ ((n + 1) / 2) ≤ 2 ^ 64 := by
      exact_mod_cast Nat.pow_le_pow_right (n := 2) (by omega) (show (n + 1) / 2 ≤ 64 by omega)
    simpa using this

theorem rinv_next {X n : Int} {j : Nat} (h : RInv X n (j + 1)) : n + 2 ^ j < 18446744073709551616 ∧ (n + 2 ^ j).toNat % 2 ^ j = 0 ∧ n.toNat % 2 ^ j = 0 := by
  obtain ⟨a, b, c, d, e⟩ := h
  have hp : (0 : Int) < 2 ^ j := Int.pow_pos (by omega)
  rw [Int.pow_succ] at e
  have hm : n.toNat % 2 ^ j = 0 := by
    rw [Nat.pow_succ] at a
    have := Nat.mod_mul_right_mod n.toNat (2 ^ j) 2
    rw [a] at this
    simpa using this.symm
  refine ⟨by omega, ?_, hm⟩
  have : (n + 2 ^ j).toNat = n.toNat + 2 ^ j := by
    obtain ⟨m, rfl⟩ := Int.eq_ofNat_of_zero_le d
    have : ((m : Int) + 2 ^ j) = ((m + 2 ^ j : Nat) : Int) := by simp
    rw [this, Int.toNat_natCast, Int.toNat_natCast]
  rw [this, Nat.add_mod_right, hm]

theorem rinv_up {X n : Int} {j : Nat} (h : RInv X n (j + 1)) (hc : (n + 2 ^ j) * (n + 2 ^ j) ≤ X) : RInv X (n + 2 ^ j) j := by
  obtain ⟨_, q, _⟩ := rinv_next h
  obtain ⟨a, b, c, d, e⟩ := h
  have hp : (0 : Int) < 2 ^ j := Int.pow_pos (by omega)
  have s : n + 2 ^ j + 2 ^ j = n + 2 ^ (j + 1) := by rw [Int.pow_succ]; omega
  exact ⟨q, hc, by rw [s]; exact c, by omega, by rw [s]; exact e⟩

theorem rinv_stay {X n : Int} {j : Nat} (h : RInv X n (j + 1)) (hc : X < (n + 2 ^ j) * (n + 2 ^ j)) : RInv X n j := by
  obtain ⟨_, _, q⟩ := rinv_next h
  obtain ⟨a, b, c, d, e⟩ := h
  have hp : (0 : Int) < 2 ^ j := Int.pow_pos (by omega)
  rw [Int.pow_succ] at e
  exact ⟨q, b, hc, d, by omega⟩

theorem root_or {n : Int} {j : Nat} (h0 : 0 ≤ n) (h : n + 2 ^ j < 18446744073709551616) (hm : n.toNat % 2 ^ (j + 1) = 0) : bits .or .u64 n (2 ^ j) = n + 2 ^ j := by
  obtain ⟨m, rfl⟩ := Int.eq_ofNat_of_zero_le h0
  have e : ((2 : Int) ^ j) = ((2 ^ j : Nat) : Int) := by simp
  rw [e] at h ⊢
  rw [u64_or_nat _ _ (by omega) (by omega), nat_join (j + 1) _ _ (by simpa using hm) (Nat.pow_lt_pow_right (by omega) (by omega))]
  simp

end Go.Proofs.Ytccdgpijjgeedaa
