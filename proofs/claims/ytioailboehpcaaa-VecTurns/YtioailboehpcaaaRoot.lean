/- The whole square root of a number of 128 bits, down (package fx, wide.root). -/
import Derived.Test.YtioailboehpcaaaBy
namespace Go.Proofs.Ytioailboehpcaaa
open Go.RowKit Fx

set_option maxHeartbeats 1000000 in
theorem length_any (X : Int) (w : World) (h0 : 0 ≤ X) (h1 : X < 170141183460469231731687303715884105728) :
    Calls Try.prog 71 #[.agg #[.int .u64 (X / 18446744073709551616 % 18446744073709551616), .int .u64 (X % 18446744073709551616)]] w fun e w' =>
      (∃ n : Nat, e = .returned (.int .i64 n) ∧ n ≤ 127 ∧ Hid (X < 2 ^ n)) ∧ Below w.heap.size w w' := by
  obtain ⟨h, hh⟩ : ∃ u, u = X / 18446744073709551616 % 18446744073709551616 := ⟨_, rfl⟩
  obtain ⟨l, hl⟩ : ∃ u, u = X % 18446744073709551616 := ⟨_, rfl⟩
  rw [← hh, ← hl]
  have bh := bitLen_le64 h (by omega) (by omega)
  have bl := bitLen_le64 l (by omega) (by omega)
  have e : X = h * 18446744073709551616 + l := by omega
  have h63 : h < 9223372036854775808 := by omega
  have bh' : bitLen h.toNat ≤ 63 := by
    by_cases g : bitLen h.toNat ≤ 63
    · exact g
    · exfalso
      by_cases z : h.toNat = 0
      · rw [z] at g; exact absurd g (by decide)
      · have a := (bitLen_spec h.toNat).2 z
        have := Nat.pow_le_pow_right (n := 2) (by omega) (show 63 ≤ bitLen h.toNat - 1 by omega)
        omega
  by_cases g : 0 < h
  · have r : X < 2 ^ (64 + bitLen h.toNat) := by
      have a := (bitLen_spec h.toNat).1
      have a' : h + 1 ≤ 2 ^ bitLen h.toNat := by
        have : ((h.toNat : Nat) : Int) < ((2 ^ bitLen h.toNat : Nat) : Int) := by exact_mod_cast a
        rw [Int.natCast_pow] at this
        have := Int.toNat_of_nonneg (show 0 ≤ h by omega)
        simp at *; omega
      rw [Int.pow_add]
      have := Int.mul_le_mul_of_nonneg_left a' (show (0 : Int) ≤ 2 ^ 64 by decide)
      omega
    have H0 : 0 ≤ h := by omega
    have H1 : h < 18446744073709551616 := by omega
    have R : Hid _ := r
    clear hh hl e h0 h1 r
    go_enter Try.func71, Try.ntmps71
    go_wp2_with (go_at_call 76; refine (len64_any _ _ H0 H1).mono ?_; rintro e w' ⟨rfl, rfl⟩)
    go_returns
    refine ⟨⟨64 + bitLen h.toNat, ret_int (by omega), by omega, R⟩, by go_grown⟩
  · have r : X < 2 ^ (bitLen l.toNat) := by
      have a := (bitLen_spec l.toNat).1
      have : ((l.toNat : Nat) : Int) < ((2 ^ bitLen l.toNat : Nat) : Int) := by exact_mod_cast a
      rw [Int.natCast_pow] at this
      have := Int.toNat_of_nonneg (show 0 ≤ l by omega)
      simp at *; omega
    have H0 : 0 ≤ l := by omega
    have H1 : l < 18446744073709551616 := by omega
    have R : Hid _ := r
    clear hh hl e h0 h1 r
    go_enter Try.func71, Try.ntmps71
    go_wp2_with (go_at_call 76; refine (len64_any _ _ H0 H1).mono ?_; rintro e w' ⟨rfl, rfl⟩)
    go_returns
    refine ⟨⟨bitLen l.toNat, rfl, by omega, R⟩, by go_grown⟩

theorem no_or {a b : Int} {c : Bool} (h : ¬ a < b) : (decide (a < b) || c) = c := by simp [h]

set_option maxHeartbeats 1000000 in
theorem above_any (n X : Int) (w : World) (hn0 : 0 ≤ n) (hn : n < 18446744073709551616) (h0 : 0 ≤ X) (h1 : X < 170141183460469231731687303715884105728) :
    Calls Try.prog 72 #[.int .u64 n, .agg #[.int .u64 (X / 18446744073709551616 % 18446744073709551616), .int .u64 (X % 18446744073709551616)]] w fun e w' =>
      e = .returned (.bool (decide (X < n * n))) ∧ Below w.heap.size w w' := by
  obtain ⟨h, hh⟩ : ∃ u, u = X / 18446744073709551616 % 18446744073709551616 := ⟨_, rfl⟩
  obtain ⟨l, hl⟩ : ∃ u, u = X % 18446744073709551616 := ⟨_, rfl⟩
  rw [← hh, ← hl]
  obtain ⟨P, hP⟩ : ∃ P, P = n * n := ⟨_, rfl⟩
  obtain ⟨ph, hph⟩ : ∃ P, P = n * n / 18446744073709551616 := ⟨_, rfl⟩
  obtain ⟨pl, hpl⟩ : ∃ P, P = n * n % 18446744073709551616 := ⟨_, rfl⟩
  have CM := fun w => mul64_any n n w hn0 hn hn0 hn
  rw [← hph, ← hpl] at CM
  rw [← hP] at *
  have CM : Hid _ := CM
  by_cases g1 : h < ph
  · have r : decide (X < P) = true := by simp; omega
    rw [r]
    clear hh hl hP hph hpl r
    go_enter Try.func72, Try.ntmps72
    go_wp2_with (go_at_call 66; refine (CM.out _).mono ?_; rintro e w' ⟨rfl, rfl⟩)
    go_returns
    exact ⟨rfl, by go_grown⟩
  · by_cases g2 : ph = h
    · have r : decide (X < P) = decide (l < pl) := by rw [decide_eq_decide]; omega
      rw [r]
      have g2' : (ph == h) = true := by simp [g2]
      clear hh hl hP hph hpl r g2
      go_enter Try.func72, Try.ntmps72
      go_wp2_with (go_at_call 66; refine (CM.out _).mono ?_; rintro e w' ⟨rfl, rfl⟩)
      go_returns
      exact ⟨ret_bool (by rw [no_or (by omega)]), by go_grown⟩
    · have r : decide (X < P) = false := by simp; omega
      rw [r]
      have g2' : (ph == h) = false := by simp [g2]
      clear hh hl hP hph hpl r g2
      go_enter Try.func72, Try.ntmps72
      go_wp2_with (go_at_call 66; refine (CM.out _).mono ?_; rintro e w' ⟨rfl, rfl⟩)
      go_returns
      exact ⟨ret_bool (by simp; omega), by go_grown⟩

/-- Half way down: n is a root's upper places; the lowest k places are open. -/
def RInv (X n : Int) (k : Nat) : Prop := n.toNat % 2 ^ k = 0 ∧ n * n ≤ X ∧ X < (n + 2 ^ k) * (n + 2 ^ k) ∧ 0 ≤ n ∧ n + 2 ^ k ≤ 18446744073709551616

theorem rinv_start {X : Int} {n : Nat} (h0 : 0 ≤ X) (hn : n ≤ 127) (h : X < 2 ^ n) : RInv X 0 ((n + 1) / 2) := by
  refine ⟨by simp, by simpa using h0, ?_, by omega, ?_⟩
  · rw [Int.zero_add, ← Int.pow_add]
    have : (2 : Int) ^ n ≤ 2 ^ ((n + 1) / 2 + (n + 1) / 2) := by
      exact_mod_cast Nat.pow_le_pow_right (n := 2) (by omega) (show n ≤ (n + 1) / 2 + (n + 1) / 2 by omega)
    omega
  · rw [Int.zero_add]
    have : (2 : Int) ^ ((n + 1) / 2) ≤ 2 ^ 64 := by
      exact_mod_cast Nat.pow_le_pow_right (n := 2) (by omega) (show (n + 1) / 2 ≤ 64 by omega)
    simpa using this

theorem rinv_next {X n : Int} {j : Nat} (h : RInv X n (j + 1)) : n + 2 ^ j < 18446744073709551616 ∧ (n + 2 ^ j).toNat % 2 ^ j = 0 ∧ n.toNat % 2 ^ j = 0 := by
  obtain ⟨a, b, c, d, e⟩ := h
  have hp : (0 : Int) < 2 ^ j := Int.pow_pos (by omega)
  rw [Int.pow_succ] at e
  have hm : n.toNat % 2 ^ j = 0 := by
    rw [Nat.pow_succ] at a
    have := Nat.mod_mul_right_mod n.toNat (2 ^ j) 2
    rw [a] at this
    simpa using this.symm
  refine ⟨by omega, ?_, hm⟩
  have : (n + 2 ^ j).toNat = n.toNat + 2 ^ j := by
    obtain ⟨m, rfl⟩ := Int.eq_ofNat_of_zero_le d
    have : ((m : Int) + 2 ^ j) = ((m + 2 ^ j : Nat) : Int) := by simp
    rw [this, Int.toNat_natCast, Int.toNat_natCast]
  rw [this, Nat.add_mod_right, hm]

theorem rinv_up {X n : Int} {j : Nat} (h : RInv X n (j + 1)) (hc : (n + 2 ^ j) * (n + 2 ^ j) ≤ X) : RInv X (n + 2 ^ j) j := by
  obtain ⟨_, q, _⟩ := rinv_next h
  obtain ⟨a, b, c, d, e⟩ := h
  have hp : (0 : Int) < 2 ^ j := Int.pow_pos (by omega)
  have s : n + 2 ^ j + 2 ^ j = n + 2 ^ (j + 1) := by rw [Int.pow_succ]; omega
  exact ⟨q, hc, by rw [s]; exact c, by omega, by rw [s]; exact e⟩

theorem rinv_stay {X n : Int} {j : Nat} (h : RInv X n (j + 1)) (hc : X < (n + 2 ^ j) * (n + 2 ^ j)) : RInv X n j := by
  obtain ⟨_, _, q⟩ := rinv_next h
  obtain ⟨a, b, c, d, e⟩ := h
  have hp : (0 : Int) < 2 ^ j := Int.pow_pos (by omega)
  rw [Int.pow_succ] at e
  exact ⟨q, b, hc, d, by omega⟩

theorem root_or {n : Int} {j : Nat} (h0 : 0 ≤ n) (h : n + 2 ^ j < 18446744073709551616) (hm : n.toNat % 2 ^ (j + 1) = 0) : bits .or .u64 n (2 ^ j) = n + 2 ^ j := by
  obtain ⟨m, rfl⟩ := Int.eq_ofNat_of_zero_le h0
  have e : ((2 : Int) ^ j) = ((2 ^ j : Nat) : Int) := by simp
  rw [e] at h ⊢
  rw [u64_or_nat _ _ (by omega) (by omega), nat_join (j + 1) _ _ (by simpa using hm) (Nat.pow_lt_pow_right (by omega) (by omega))]
  simp

end Go.Proofs.Ytioailboehpcaaa
