/- math/bits.Div64's own text in this program: for every high word below a divisor of less than 2^62 it returns quotient and rest. -/
import Derived.Test.YtiicpdlaaklahaaBits
import Derived.Test.YtiicpdlaaklahaaMath
import Derived.Laws.BitsAllLaws
import Derived.WalkLawsBesides
namespace Go.Proofs.Ytiicpdlaaklahaa
open Go.RowKit Fx

theorem norm_setup (hi lo y : Int) (s : Nat) (hs : (64 : Int) - (bitLen y.toNat : Int) = s) (hh0 : 1 ≤ hi) (hh : hi < y) (hl0 : 0 ≤ lo) (hl : lo < 18446744073709551616) (hy : y < 4611686018427387904) :
    1 ≤ s ∧ s ≤ 63 ∧ ∃ Y y1 y0 U1 L u1 u0 : Int,
      IntKind.u64.wrap (y * 2 ^ s) = Y ∧ Y / 4294967296 = y1 ∧ bits .and .u64 Y 4294967295 = y0 ∧ Y = y1 * 4294967296 + y0 ∧ 0 ≤ y0 ∧ y0 < 4294967296 ∧ 2147483648 ≤ y1 ∧ y1 < 4294967296 ∧
      bits .or .u64 (IntKind.u64.wrap (hi * 2 ^ s)) (lo / 2 ^ (64 - s)) = U1 ∧ 0 ≤ U1 ∧ U1 < Y ∧
      IntKind.u64.wrap (lo * 2 ^ s) = L ∧ L / 4294967296 = u1 ∧ bits .and .u64 L 4294967295 = u0 ∧ 0 ≤ u1 ∧ u1 < 4294967296 ∧ 0 ≤ u0 ∧ u0 < 4294967296 ∧
      Y = y * 2 ^ s ∧ (hi * 18446744073709551616 + lo) * 2 ^ s = U1 * 18446744073709551616 + u1 * 4294967296 + u0 := by
  obtain ⟨b1, b2⟩ := bitLen_spec y.toNat
  have b2 := b2 (by omega)
  generalize hb : bitLen y.toNat = b at *
  have hb62 : b ≤ 62 := by
    by_cases g : b ≤ 62
    · exact g
    · exfalso
      have := Nat.pow_le_pow_right (n := 2) (by omega) (show 62 ≤ b - 1 by omega)
      omega
  have hb1 : 1 ≤ b := by
    rcases Nat.eq_zero_or_pos b with h0 | h0
    · rw [h0] at b1; simp at b1; omega
    · exact h0
  have hs1 : 1 ≤ s := by omega
  have hs2 : s ≤ 63 := by omega
  refine ⟨hs1, hs2, ?_⟩
  have p1 : (2 : Nat) ^ (b - 1) * 2 ^ s = 9223372036854775808 := by rw [← Nat.pow_add, show b - 1 + s = 63 by omega]
  have p2 : (2 : Nat) ^ b * 2 ^ s = 18446744073709551616 := by rw [← Nat.pow_add, show b + s = 64 by omega]
  have p3 : (2 : Nat) ^ (64 - s) * 2 ^ s = 18446744073709551616 := by rw [← Nat.pow_add, show 64 - s + s = 64 by omega]
  have hp : 0 < (2 : Nat) ^ s := Nat.two_pow_pos s
  have hp' : 0 < (2 : Nat) ^ (64 - s) := Nat.two_pow_pos _
  obtain ⟨Y, rfl⟩ := Int.eq_ofNat_of_zero_le (show 0 ≤ y by omega)
  obtain ⟨H, rfl⟩ := Int.eq_ofNat_of_zero_le (show 0 ≤ hi by omega)
  obtain ⟨L, rfl⟩ := Int.eq_ofNat_of_zero_le hl0
  simp only [Int.toNat_natCast] at b1 b2
  have q1 : 9223372036854775808 ≤ Y * 2 ^ s := by rw [← p1]; exact Nat.mul_le_mul_right _ b2
  have q2 : Y * 2 ^ s < 18446744073709551616 := by rw [← p2]; exact Nat.mul_lt_mul_of_pos_right b1 hp
  have q3 : H * 2 ^ s + 2 ^ s ≤ Y * 2 ^ s := by rw [← Nat.succ_mul]; exact Nat.mul_le_mul_right _ (by omega)
  have c1 : ((Y : Int) * 2 ^ s) = ((Y * 2 ^ s : Nat) : Int) := by simp
  have c2 : ((H : Int) * 2 ^ s) = ((H * 2 ^ s : Nat) : Int) := by simp
  have c3 : ((L : Int) * 2 ^ s) = ((L * 2 ^ s : Nat) : Int) := by simp
  have c4 : ((L : Int) / 2 ^ (64 - s)) = ((L / 2 ^ (64 - s) : Nat) : Int) := by simp
  have d1 : L / 2 ^ (64 - s) < 2 ^ s := by
    rw [Nat.div_lt_iff_lt_mul hp', Nat.mul_comm, p3]; omega
  have d2 : L * 2 ^ s = L / 2 ^ (64 - s) * 18446744073709551616 + L * 2 ^ s % 18446744073709551616 := by
    have e := Nat.div_add_mod L (2 ^ (64 - s))
    have m : L % 2 ^ (64 - s) * 2 ^ s < 18446744073709551616 := by rw [← p3]; exact Nat.mul_lt_mul_of_pos_right (Nat.mod_lt _ hp') hp
    have e2 : L * 2 ^ s = L / 2 ^ (64 - s) * 18446744073709551616 + L % 2 ^ (64 - s) * 2 ^ s := by
      have : L * 2 ^ s = (2 ^ (64 - s) * (L / 2 ^ (64 - s)) + L % 2 ^ (64 - s)) * 2 ^ s := by rw [e]
      rw [this, Nat.add_mul, Nat.mul_right_comm, p3, Nat.mul_comm 18446744073709551616]
    omega
  have hor : bits .or .u64 (IntKind.u64.wrap ((H : Int) * 2 ^ s)) ((L : Int) / 2 ^ (64 - s)) = ((H * 2 ^ s + L / 2 ^ (64 - s) : Nat) : Int) := by
    rw [IntKind.wrap_u64, c2, c4, show ((H * 2 ^ s : Nat) : Int) % 18446744073709551616 = ((H * 2 ^ s : Nat) : Int) by omega, u64_or_nat _ _ (by omega) (by omega), nat_join s _ _ (Nat.mul_mod_left _ _) d1]
  have htot : ((H : Int) * 18446744073709551616 + L) * 2 ^ s = ((H * 2 ^ s : Nat) : Int) * 18446744073709551616 + ((L * 2 ^ s : Nat) : Int) := by
    rw [← c2, ← c3, Int.add_mul, Int.mul_right_comm]
  rw [hor, htot, c1, c3]
  generalize Y * 2 ^ s = A at *
  generalize H * 2 ^ s = B at *
  generalize L * 2 ^ s = C at *
  generalize L / 2 ^ (64 - s) = D at *
  have wA : IntKind.u64.wrap (A : Int) = (A : Int) := by rw [IntKind.wrap_u64]; omega
  have wC : IntKind.u64.wrap (C : Int) = ((C % 18446744073709551616 : Nat) : Int) := by rw [IntKind.wrap_u64]; omega
  have aA := and_low32 (A : Int) (by omega) (by omega)
  have aC := and_low32 ((C % 18446744073709551616 : Nat) : Int) (by omega) (by omega)
  rw [wA, wC]
  exact ⟨A, _, _, _, _, _, _, rfl, rfl, aA, by omega, by omega, by omega, by omega, by omega, rfl, by omega, by omega, rfl, rfl, aC, by omega, by omega, by omega, by omega, rfl, by omega⟩

set_option maxHeartbeats 1000000 in
theorem div64_lo (lo y : Int) (w : World) (hl0 : 0 ≤ lo) (hl : lo < 18446744073709551616) (hy0 : 1 ≤ y) (hy : y < 4611686018427387904) :
    Calls Try.prog 84 #[.int .u64 0, .int .u64 lo, .int .u64 y] w fun e w' => e = .returned (.tuple #[.int .u64 (lo / y), .int .u64 (lo % y)]) ∧ w' = w.drew := by
  have hyz : (y == 0) = false := by simp; omega
  have hb1 : 0 ≤ lo / y := Int.ediv_nonneg hl0 (by omega)
  have hb2 : lo / y ≤ lo := Int.ediv_le_self _ hl0
  go_enter Try.func84, Try.ntmps84
  go_wp2
  go_region
  all_goals go_wp2
  all_goals go_ret2
  all_goals exact ⟨rfl, rfl⟩

set_option maxHeartbeats 4000000 in
theorem div64_hi (hi lo y : Int) (w : World) (hh0 : 1 ≤ hi) (hh : hi < y) (hl0 : 0 ≤ lo) (hl : lo < 18446744073709551616) (hy : y < 4611686018427387904) :
    Calls Try.prog 84 #[.int .u64 hi, .int .u64 lo, .int .u64 y] w fun e w' => e = .returned (.tuple #[.int .u64 ((hi * 18446744073709551616 + lo) / y), .int .u64 ((hi * 18446744073709551616 + lo) % y)]) ∧ w' = w := by
  have hyz : (y == 0) = false := by simp; omega
  have hhz : (hi == 0) = false := by simp; omega
  have hbl := bitLen_le64 y (by omega) (by omega)
  obtain ⟨s, hs⟩ : ∃ s : Nat, (64 : Int) - (bitLen y.toNat : Int) = s := ⟨64 - bitLen y.toNat, by omega⟩
  obtain ⟨hs1, hs2, Y, y1, y0, U1, L, u1, u0, hY, hy1, hy0, hYe, hy00, hy01, hy10, hy11, hU, hU0, hU1, hL, hu1, hu0, hu10, hu11, hu00, hu01, hYs, htot⟩ := norm_setup hi lo y s hs hh0 hh hl0 hl hy
  have YE : Hid (Y = y1 * 4294967296 + y0) := hYe
  have YS : Hid (Y = y * 2 ^ s) := hYs
  have TOT : Hid ((hi * 18446744073709551616 + lo) * 2 ^ s = U1 * 18446744073709551616 + u1 * 4294967296 + u0) := htot
  have HS : Hid (64 - (bitLen y.toNat : Int) = s) := hs
  clear hYe hYs htot
  obtain ⟨Q1, hQ10, hQ11, hQ1a, hQ1b⟩ := digit U1 u1 Y hU0 hU1 hu10 hu11
  obtain ⟨R, hR⟩ : ∃ R, R = U1 * 4294967296 + u1 - Q1 * Y := ⟨_, rfl⟩
  have hR0 : 0 ≤ R := by omega
  have hR1 : R < Y := by have := Int.add_mul Q1 1 Y; omega
  have hun : IntKind.u64.wrap (IntKind.u64.wrap (IntKind.u64.wrap (U1 * 4294967296) + u1) - IntKind.u64.wrap (Q1 * Y)) = R := by
    simp only [IntKind.wrap_u64]; omega
  obtain ⟨Q0, hQ00, hQ01, hQ0a, hQ0b⟩ := digit R u0 Y hR0 hR1 hu00 hu01
  obtain ⟨R0, hR0e⟩ : ∃ R0, R0 = R * 4294967296 + u0 - Q0 * Y := ⟨_, rfl⟩
  have hR00 : 0 ≤ R0 := by omega
  have hR01 : R0 < Y := by have := Int.add_mul Q0 1 Y; omega
  have hun0 : IntKind.u64.wrap (IntKind.u64.wrap (IntKind.u64.wrap (R * 4294967296) + u0) - IntKind.u64.wrap (Q0 * Y)) = R0 := by
    simp only [IntKind.wrap_u64]; omega
  have FIN : Hid ((hi * 18446744073709551616 + lo) / y = Q1 * 4294967296 + Q0 ∧ (hi * 18446744073709551616 + lo) % y = R0 / 2 ^ s) := by
    have a := two_digits (Q1 := Q1) (Q0 := Q0) (U1 := U1) (u1 := u1) (u0 := u0) (Y := Y) (by omega) hu00 hu01 hQ1a hQ1b (by rw [← hR]; exact hQ0a) (by rw [← hR]; exact hQ0b)
    rw [← hR, ← hR0e, ← TOT.out, YS.out] at a
    have b := scaled (n := hi * 18446744073709551616 + lo) s (show 0 < y by omega)
    rw [a.1, a.2] at b
    exact ⟨b.1.symm, b.2.symm⟩
  have J0 : Hid _ := inv_start (Q := Q1) hU0 (by rw [← YE.out]; exact hU1) hu10 hu11 hy00 hy01 hy10 hQ10 (by rw [← YE.out]; exact hQ1a)
  have K0 : Hid _ := inv_start (Q := Q0) hR0 (by rw [← YE.out]; exact hR1) hu00 hu01 hy00 hy01 hy10 hQ00 (by rw [← YE.out]; exact hQ0a)
  have QA : Hid (Q1 * (y1 * 4294967296 + y0) ≤ U1 * 4294967296 + u1) := by rw [← YE.out]; exact hQ1a
  have QB : Hid (U1 * 4294967296 + u1 < (Q1 + 1) * (y1 * 4294967296 + y0)) := by rw [← YE.out]; exact hQ1b
  have PA : Hid (Q0 * (y1 * 4294967296 + y0) ≤ R * 4294967296 + u0) := by rw [← YE.out]; exact hQ0a
  have PB : Hid (R * 4294967296 + u0 < (Q0 + 1) * (y1 * 4294967296 + y0)) := by rw [← YE.out]; exact hQ0b
  have hU1' : Hid (U1 < y1 * 4294967296 + y0) := by rw [← YE.out]; exact hU1
  have hR1' : Hid (R < y1 * 4294967296 + y0) := by rw [← YE.out]; exact hR1
  have hqb : 0 ≤ U1 / y1 ∧ U1 / y1 ≤ 4294967297 := by have := J0.out.1.2.2; omega
  have hqb0 : 0 ≤ R / y1 ∧ R / y1 ≤ 4294967297 := by have := K0.out.1.2.2; omega
  have hrh : IntKind.u64.wrap (U1 - IntKind.u64.wrap (U1 / y1 * y1)) = U1 % y1 := by
    have a := J0.out.1.1; have b := J0.out.2; have c := J0.out.1.2.1; simp only [IntKind.wrap_u64]; omega
  have hrh0 : IntKind.u64.wrap (R - IntKind.u64.wrap (R / y1 * y1)) = R % y1 := by
    have a := K0.out.1.1; have b := K0.out.2; have c := K0.out.1.2.1; simp only [IntKind.wrap_u64]; omega
  have HR : Hid (R = U1 * 4294967296 + u1 - Q1 * Y) := hR
  clear hQ1a hQ1b hQ0a hQ0b hR hR0e
  have STEP : Hid (∀ q r : Int, Inv U1 y1 Q1 q r → r < 4294967296 → (4294967296 ≤ q ∨ 4294967296 * r + u1 < q * y0) → Inv U1 y1 Q1 (q - 1) (r + y1) ∧ (4294967296 ≤ r + y1 → q - 1 = Q1)) := by
    intro q r hI _ hc
    have h := inv_step hU1'.out hu10 hu11 hy00 hy10 QA.out hI hc
    exact ⟨h, fun g => inv_break hy00 hy01 hy10 hu10 QB.out h (by have := hI.2.2.2; omega) g⟩
  have STEP0 : Hid (∀ q r : Int, Inv R y1 Q0 q r → r < 4294967296 → (4294967296 ≤ q ∨ 4294967296 * r + u0 < q * y0) → Inv R y1 Q0 (q - 1) (r + y1) ∧ (4294967296 ≤ r + y1 → q - 1 = Q0)) := by
    intro q r hI _ hc
    have h := inv_step hR1'.out hu00 hu01 hy00 hy10 PA.out hI hc
    exact ⟨h, fun g => inv_break hy00 hy01 hy10 hu00 PB.out h (by have := hI.2.2.2; omega) g⟩
  have hm : Hid (∀ q : Int, 0 ≤ q → q < 4294967296 → 0 ≤ q * y0 ∧ q * y0 < 18446744073709551616) := by
    intro q a b
    have := Int.mul_nonneg a hy00
    have := Int.mul_le_mul (show q ≤ 4294967295 by omega) (show y0 ≤ 4294967295 by omega) hy00 (by omega)
    omega
  go_enter Try.func84, Try.ntmps84
  go_wp2_with (go_at_call 87; refine (lz64_any y _ (by omega) (by omega)).mono ?_; rintro e w' ⟨rfl, rfl⟩)
  go_loop [15, 16] (fun a b => ∃ q r : Int, a = .int .u64 q ∧ b = .int .u64 r ∧ Hid (Inv U1 y1 Q1 q r) ∧ r < 4294967296) (fun a _ => (intOf a).toNat)
  case atStart => exact ⟨_, _, rfl, rfl, J0.out.1, by have := J0.out.2; omega⟩
  case round =>
    obtain ⟨q, r, rfl, rfl, HI, hr⟩ := hrel
    have hI := HI.out
    have hq0 : Q1 ≤ q := hI.2.2.1
    have hq1 : q ≤ 4294967297 := hI.2.2.2
    have hr0 : 0 ≤ r := hI.2.1
    clear hI
    have hmq := hm.out q (by omega)
    by_cases hA : 4294967296 ≤ q
    · have hS := STEP.out q r HI.out hr (Or.inl hA)
      have S1 : Hid (Inv U1 y1 Q1 (q - 1) (r + y1)) := hS.1
      have hq2 : Q1 ≤ q - 1 := hS.1.2.2.1
      clear hmq
      by_cases hbr : 4294967296 ≤ r + y1
      · obtain rfl : q = Q1 + 1 := by have := hS.2 hbr; omega
        clear hS
        go_wp2
        go_loop [18, 16] (fun a b => ∃ q r : Int, a = .int .u64 q ∧ b = .int .u64 r ∧ Hid (Inv R y1 Q0 q r) ∧ r < 4294967296) (fun a _ => (intOf a).toNat)
        case atStart => exact ⟨_, _, rfl, rfl, K0.out.1, by have := K0.out.2; omega⟩
        case round =>
          obtain ⟨p, t, rfl, rfl, HI0, ht⟩ := hrel
          have hI := HI0.out
          have hp0 : Q0 ≤ p := hI.2.2.1
          have hp1 : p ≤ 4294967297 := hI.2.2.2
          have ht0 : 0 ≤ t := hI.2.1
          clear hI
          by_cases hA0 : 4294967296 ≤ p
          · have hS := STEP0.out p t HI0.out ht (Or.inl hA0)
            have S1 : Hid (Inv R y1 Q0 (p - 1) (t + y1)) := hS.1
            have hp2 : Q0 ≤ p - 1 := hS.1.2.2.1
            by_cases hbr0 : 4294967296 ≤ t + y1
            · obtain rfl : p = Q0 + 1 := by have := hS.2 hbr0; omega
              clear hS
              go_wp2
              go_ret2
              refine ⟨?_, rfl⟩
              rw [FIN.out.1, FIN.out.2]
              rfl
            · clear hS
              go_wp2
              go_round
              case rel => exact ⟨_, _, rfl, rfl, S1, by omega⟩
              case measure => simp [intOf]; omega
          · have hmq := hm.out p (by omega) (by omega)
            by_cases hB0 : 4294967296 * t + u0 < p * y0
            · have hS := STEP0.out p t HI0.out ht (Or.inr hB0)
              have S1 : Hid (Inv R y1 Q0 (p - 1) (t + y1)) := hS.1
              have hp2 : Q0 ≤ p - 1 := hS.1.2.2.1
              by_cases hbr0 : 4294967296 ≤ t + y1
              · obtain rfl : p = Q0 + 1 := by have := hS.2 hbr0; omega
                clear hS
                go_wp2
                go_ret2
                refine ⟨?_, rfl⟩
                rw [FIN.out.1, FIN.out.2]
                rfl
              · clear hS
                go_wp2
                go_round
                case rel => exact ⟨_, _, rfl, rfl, S1, by omega⟩
                case measure => simp [intOf]; omega
            · obtain rfl : p = Q0 := inv_end hy00 hy10 PB.out HI0.out (by omega)
              go_wp2
              go_ret2
              refine ⟨?_, rfl⟩
              rw [FIN.out.1, FIN.out.2]
              rfl
      · clear hS
        go_wp2
        go_round
        case rel => exact ⟨_, _, rfl, rfl, S1, by omega⟩
        case measure => simp [intOf]; omega
    · have hmq := hmq (by omega)
      by_cases hB : 4294967296 * r + u1 < q * y0
      · have hS := STEP.out q r HI.out hr (Or.inr hB)
        have S1 : Hid (Inv U1 y1 Q1 (q - 1) (r + y1)) := hS.1
        have hq2 : Q1 ≤ q - 1 := hS.1.2.2.1
        by_cases hbr : 4294967296 ≤ r + y1
        · obtain rfl : q = Q1 + 1 := by have := hS.2 hbr; omega
          clear hS
          go_wp2
          go_loop [18, 16] (fun a b => ∃ q r : Int, a = .int .u64 q ∧ b = .int .u64 r ∧ Hid (Inv R y1 Q0 q r) ∧ r < 4294967296) (fun a _ => (intOf a).toNat)
          case atStart => exact ⟨_, _, rfl, rfl, K0.out.1, by have := K0.out.2; omega⟩
          case round =>
            obtain ⟨p, t, rfl, rfl, HI0, ht⟩ := hrel
            have hI := HI0.out
            have hp0 : Q0 ≤ p := hI.2.2.1
            have hp1 : p ≤ 4294967297 := hI.2.2.2
            have ht0 : 0 ≤ t := hI.2.1
            clear hI
            by_cases hA0 : 4294967296 ≤ p
            · have hS := STEP0.out p t HI0.out ht (Or.inl hA0)
              have S1 : Hid (Inv R y1 Q0 (p - 1) (t + y1)) := hS.1
              have hp2 : Q0 ≤ p - 1 := hS.1.2.2.1
              by_cases hbr0 : 4294967296 ≤ t + y1
              · obtain rfl : p = Q0 + 1 := by have := hS.2 hbr0; omega
                clear hS
                go_wp2
                go_ret2
                refine ⟨?_, rfl⟩
                rw [FIN.out.1, FIN.out.2]
                rfl
              · clear hS
                go_wp2
                go_round
                case rel => exact ⟨_, _, rfl, rfl, S1, by omega⟩
                case measure => simp [intOf]; omega
            · have hmq := hm.out p (by omega) (by omega)
              by_cases hB0 : 4294967296 * t + u0 < p * y0
              · have hS := STEP0.out p t HI0.out ht (Or.inr hB0)
                have S1 : Hid (Inv R y1 Q0 (p - 1) (t + y1)) := hS.1
                have hp2 : Q0 ≤ p - 1 := hS.1.2.2.1
                by_cases hbr0 : 4294967296 ≤ t + y1
                · obtain rfl : p = Q0 + 1 := by have := hS.2 hbr0; omega
                  clear hS
                  go_wp2
                  go_ret2
                  refine ⟨?_, rfl⟩
                  rw [FIN.out.1, FIN.out.2]
                  rfl
                · clear hS
                  go_wp2
                  go_round
                  case rel => exact ⟨_, _, rfl, rfl, S1, by omega⟩
                  case measure => simp [intOf]; omega
              · obtain rfl : p = Q0 := inv_end hy00 hy10 PB.out HI0.out (by omega)
                go_wp2
                go_ret2
                refine ⟨?_, rfl⟩
                rw [FIN.out.1, FIN.out.2]
                rfl
        · clear hS
          go_wp2
          go_round
          case rel => exact ⟨_, _, rfl, rfl, S1, by omega⟩
          case measure => simp [intOf]; omega
      · obtain rfl : q = Q1 := inv_end hy00 hy10 QB.out HI.out (by omega)
        go_wp2
        go_loop [18, 16] (fun a b => ∃ q r : Int, a = .int .u64 q ∧ b = .int .u64 r ∧ Hid (Inv R y1 Q0 q r) ∧ r < 4294967296) (fun a _ => (intOf a).toNat)
        case atStart => exact ⟨_, _, rfl, rfl, K0.out.1, by have := K0.out.2; omega⟩
        case round =>
          obtain ⟨p, t, rfl, rfl, HI0, ht⟩ := hrel
          have hI := HI0.out
          have hp0 : Q0 ≤ p := hI.2.2.1
          have hp1 : p ≤ 4294967297 := hI.2.2.2
          have ht0 : 0 ≤ t := hI.2.1
          clear hI
          by_cases hA0 : 4294967296 ≤ p
          · have hS := STEP0.out p t HI0.out ht (Or.inl hA0)
            have S1 : Hid (Inv R y1 Q0 (p - 1) (t + y1)) := hS.1
            have hp2 : Q0 ≤ p - 1 := hS.1.2.2.1
            by_cases hbr0 : 4294967296 ≤ t + y1
            · obtain rfl : p = Q0 + 1 := by have := hS.2 hbr0; omega
              clear hS
              go_wp2
              go_ret2
              refine ⟨?_, rfl⟩
              rw [FIN.out.1, FIN.out.2]
              rfl
            · clear hS
              go_wp2
              go_round
              case rel => exact ⟨_, _, rfl, rfl, S1, by omega⟩
              case measure => simp [intOf]; omega
          · have hmq := hm.out p (by omega) (by omega)
            by_cases hB0 : 4294967296 * t + u0 < p * y0
            · have hS := STEP0.out p t HI0.out ht (Or.inr hB0)
              have S1 : Hid (Inv R y1 Q0 (p - 1) (t + y1)) := hS.1
              have hp2 : Q0 ≤ p - 1 := hS.1.2.2.1
              by_cases hbr0 : 4294967296 ≤ t + y1
              · obtain rfl : p = Q0 + 1 := by have := hS.2 hbr0; omega
                clear hS
                go_wp2
                go_ret2
                refine ⟨?_, rfl⟩
                rw [FIN.out.1, FIN.out.2]
                rfl
              · clear hS
                go_wp2
                go_round
                case rel => exact ⟨_, _, rfl, rfl, S1, by omega⟩
                case measure => simp [intOf]; omega
            · obtain rfl : p = Q0 := inv_end hy00 hy10 PB.out HI0.out (by omega)
              go_wp2
              go_ret2
              refine ⟨?_, rfl⟩
              rw [FIN.out.1, FIN.out.2]
              rfl
end Go.Proofs.Ytiicpdlaaklahaa
