/- math/bits.Div64's own text in this program: for every high word below a divisor of less than 2^62 it returns quotient and rest. -/
import Derived.Test.YtbhdfjoagajipaaGreatBBW6
import Derived.Test.YtbhdfjoagajipaaGreatBBW1
import Derived.Laws.BitsAllLaws
import Derived.WalkLawsBesides
import Derived.Deep.RegionWith
import Derived.Test.YtbhdfjoagajipaaGreatBBW0
namespace Go.Proofs.YtbhdfjoagajipaaGreat
open Go.RowKit Fx

theorem norm_setup (hi lo y : Int) (s : Nat) (hs : (64 : Int) - (bitLen y.toNat : Int) = s) (hh0 : 1 ≤ hi) (hh : hi < y) (hl0 : 0 ≤ lo) (hl : lo < 18446744073709551616) (hy : y < 4611686018427387904) :
    1 ≤ s ∧ s ≤ 63 ∧ ∃ Y y1 y0 U1 L u1 u0 : Int,
      IntKind.u64.wrap (y * 2 ^ s) = Y ∧ Y / 4294967296 = y1 ∧ bits .and .u64 Y 4294967295 = y0 ∧ Y = y1 * 4294967296 + y0 ∧ 0 ≤ y0 ∧ y0 < 4294967296 ∧ 2147483648 ≤ y1 ∧ y1 < 4294967296 ∧
      bits .or .u64 (IntKind.u64.wrap (hi * 2 ^ s)) (lo / 2 ^ (64 - s)) = U1 ∧ 0 ≤ U1 ∧ U1 < Y ∧
      IntKind.u64.wrap (lo * 2 ^ s) = L ∧ L / 4294967296 = u1 ∧ bits .and .u64 L 4294967295 = u0 ∧ 0 ≤ u1 ∧ u1 < 4294967296 ∧ 0 ≤ u0 ∧ u0 < 4294967296 ∧
      Y = y * 2 ^ s ∧ (hi * 18446744073709551616 + lo) * 2 ^ s = U1 * 18446744073709551616 + u1 * 4294967296 + u0 := by
  obtain ⟨b1, b2⟩ := bitLen_spec y.toNat
  have b2 := b2 (by omega)
  generalize hb : bitLen y.toNat = b at *
  have hb62 : b ≤ 62 := by
    by_cases g : b ≤ 62
    · exact g
    · exfalso
      have := Nat.pow_le_pow_right (n := 2) (by omega) (show 62 ≤ b - 1 by omega)
      omega
  have hb1 : 1 ≤ b := by
    rcases Nat.eq_zero_or_pos b with h0 | h0
    · rw [h0] at b1; simp at b1; omega
    · exact h0
  have hs1 : 1 ≤ s := by omega
  have hs2 : s ≤ 63 := by omega
  refine ⟨hs1, hs2, ?_⟩
  have p1 : (2 : Nat) ^ (b - 1) * 2 ^ s = 9223372036854775808 := by rw [← Nat.pow_add, show b - 1 + s = 63 by omega]
  have p2 : (2 : Nat) ^ b * 2 ^ s = 18446744073709551616 := by rw [← Nat.pow_add, show b + s = 64 by omega]
  have p3 : (2 : Nat) ^ (64 - s) * 2 ^ s = 18446744073709551616 := by rw [← Nat.pow_add, show 64 - s + s = 64 by omega]
  have hp : 0 < (2 : Nat) ^ s := Nat.two_pow_pos s
  have hp' : 0 < (2 : Nat) ^ (64 - s) := Nat.two_pow_pos _
  obtain ⟨Y, rfl⟩ := Int.eq_ofNat_of_zero_le (show 0 ≤ y by omega)
  obtain ⟨H, rfl⟩ := Int.eq_ofNat_of_zero_le (show 0 ≤ hi by omega)
  obtain ⟨L, rfl⟩ := Int.eq_ofNat_of_zero_le hl0
  simp only [Int.toNat_natCast] at b1 b2
  have q1 : 9223372036854775808 ≤ Y * 2 ^ s := by rw [← p1]; exact Nat.mul_le_mul_right _ b2
  have q2 : Y * 2 ^ s < 18446744073709551616 := by rw [← p2]; exact Nat.mul_lt_mul_of_pos_right b1 hp
  have q3 : H * 2 ^ s + 2 ^ s ≤ Y * 2 ^ s := by rw [← Nat.succ_mul]; exact Nat.mul_le_mul_right _ (by omega)
  have c1 : ((Y : Int) * 2 ^ s) = ((Y * 2 ^ s : Nat) : Int) := by simp
  have c2 : ((H : Int) * 2 ^ s) = ((H * 2 ^ s : Nat) : Int) := by simp
  have c3 : ((L : Int) * 2 ^ s) = ((L * 2 ^ s : Nat) : Int) := by simp
  have c4 : ((L : Int) / 2 ^ (64 - s)) = ((L / 2 ^ (64 - s) : Nat) : Int) := by simp
  have d1 : L / 2 ^ (64 - s) < 2 ^ s := by
    rw [Nat.div_lt_iff_lt_mul hp', Nat.mul_comm, p3]; omega
  have d2 : L * 2 ^ s = L / 2 ^ (64 - s) * 18446744073709551616 + L * 2 ^ s % 18446744073709551616 := by
    have e := Nat.div_add_mod L (2 ^ (64 - s))
    have m : L % 2 ^ (64 - s) * 2 ^ s < 18446744073709551616 := by rw [← p3]; exact Nat.mul_lt_mul_of_pos_right (Nat.mod_lt _ hp') hp
    have e2 : L * 2 ^ s = L / 2 ^ (64 - s) * 18446744073709551616 + L % 2 ^ (64 - s) * 2 ^ s := by
      have : L * 2 ^ s = (2 ^ (64 - s) * (L / 2 ^ (64 - s)) + L % 2 ^ (64 - s)) * 2 ^ s := by rw [e]
      rw [this, Nat.add_mul, Nat.mul_right_comm, p3, Nat.mul_comm 18446744073709551616]
    omega
  have hor : bits .or .u64 (IntKind.u64.wrap ((H : Int) * 2 ^ s)) ((L : Int) / 2 ^ (64 - s)) = ((H * 2 ^ s + L / 2 ^ (64 - s) : Nat) : Int) := by
    rw [IntKind.wrap_u64, c2, c4, show ((H * 2 ^ s : Nat) : Int) % 18446744073709551616 = ((H * 2 ^ s : Nat) : Int) by omega, u64_or_nat _ _ (by omega) (by omega), nat_join s _ _ (Nat.mul_mod_left _ _) d1]
  have htot : ((H : Int) * 18446744073709551616 + L) * 2 ^ s = ((H * 2 ^ s : Nat) : Int) * 18446744073709551616 + ((L * 2 ^ s : Nat) : Int) := by
    rw [← c2, ← c3, Int.add_mul, Int.mul_right_comm]
  rw [hor, htot, c1, c3]
  generalize Y * 2 ^ s = A at *
  generalize H * 2 ^ s = B at *
  generalize L * 2 ^ s = C at *
  generalize L / 2 ^ (64 - s) = D at *
  have wA : IntKind.u64.wrap (A : Int) = (A : Int) := by rw [IntKind.wrap_u64]; omega
  have wC : IntKind.u64.wrap (C : Int) = ((C % 18446744073709551616 : Nat) : Int) := by rw [IntKind.wrap_u64]; omega
  have aA := and_low32 (A : Int) (by omega) (by omega)
  have aC := and_low32 ((C % 18446744073709551616 : Nat) : Int) (by omega) (by omega)
  rw [wA, wC]
  exact ⟨A, _, _, _, _, _, _, rfl, rfl, aA, by omega, by omega, by omega, by omega, by omega, rfl, by omega, by omega, rfl, rfl, aC, by omega, by omega, by omega, by omega, rfl, by omega⟩

set_option maxHeartbeats 1000000 in
theorem div64_lo (lo y : Int) (w : World) (hl0 : 0 ≤ lo) (hl : lo < 18446744073709551616) (hy0 : 1 ≤ y) (hy : y < 4611686018427387904) :
    Calls Tryz.prog 152 #[.int .u64 0, .int .u64 lo, .int .u64 y] w fun e w' => e = .returned (.tuple #[.int .u64 (lo / y), .int .u64 (lo % y)]) ∧ w' = w.drew := by
  have hyz : (y == 0) = false := by simp; omega
  have hb1 : 0 ≤ lo / y := Int.ediv_nonneg hl0 (by omega)
  have hb2 : lo / y ≤ lo := Int.ediv_le_self _ hl0
  go_enter Tryz.func152, Tryz.ntmps152
  go_wp2
  go_region
  all_goals go_wp2
  all_goals go_ret2
  all_goals exact ⟨rfl, rfl⟩

set_option maxHeartbeats 4000000 in
theorem div64_hi (hi lo y : Int) (w : World) (hh0 : 1 ≤ hi) (hh : hi < y) (hl0 : 0 ≤ lo) (hl : lo < 18446744073709551616) (hy : y < 4611686018427387904) :
    Calls Tryz.prog 152 #[.int .u64 hi, .int .u64 lo, .int .u64 y] w fun e w' => e = .returned (.tuple #[.int .u64 ((hi * 18446744073709551616 + lo) / y), .int .u64 ((hi * 18446744073709551616 + lo) % y)]) ∧ w' = w := by
  have hyz : (y == 0) = false := by simp; omega
  have hhz : (hi == 0) = false := by simp; omega
  have hbl := bitLen_le64 y (by omega) (by omega)
  obtain ⟨s, hs⟩ : ∃ s : Nat, (64 : Int) - (bitLen y.toNat : Int) = s := ⟨64 - bitLen y.toNat, by omega⟩
  obtain ⟨hs1, hs2, Y, y1, y0, U1, L, u1, u0, hY, hy1, hy0, hYe, hy00, hy01, hy10, hy11, hU, hU0, hU1, hL, hu1, hu0, hu10, hu11, hu00, hu01, hYs, htot⟩ := norm_setup hi lo y s hs hh0 hh hl0 hl hy
  have YE : Hid (Y = y1 * 4294967296 + y0) := hYe
  have YS : Hid (Y = y * 2 ^ s) := hYs
  have TOT : Hid ((hi * 18446744073709551616 + lo) * 2 ^ s = U1 * 18446744073709551616 + u1 * 4294967296 + u0) := htot
  have HS : Hid (64 - (bitLen y.toNat : Int) = s) := hs
  clear hYe hYs htot
  obtain ⟨Q1, hQ10, hQ11, hQ1a, hQ1b⟩ := digit U1 u1 Y hU0 hU1 hu10 hu11
  obtain ⟨R, hR⟩ : ∃ R, R = U1 * 4294967296 + u1 - Q1 * Y := ⟨_, rfl⟩
  have hR0 : 0 ≤ R := by omega
  have hR1 : R < Y := by have := Int.add_mul Q1 1 Y; omega
  have hun : IntKind.u64.wrap (IntKind.u64.wrap (IntKind.u64.wrap (U1 * 4294967296) + u1) - IntKind.u64.wrap (Q1 * Y)) = R := by
    simp only [IntKind.wrap_u64]; omega
  obtain ⟨Q0, hQ00, hQ01, hQ0a, hQ0b⟩ := digit R u0 Y hR0 hR1 hu00 hu01
  obtain ⟨R0, hR0e⟩ : ∃ R0, R0 = R * 4294967296 + u0 - Q0 * Y := ⟨_, rfl⟩
  have hR00 : 0 ≤ R0 := by omega
  have hR01 : R0 < Y := by have := Int.add_mul Q0 1 Y; omega
  have hun0 : IntKind.u64.wrap (IntKind.u64.wrap (IntKind.u64.wrap (R * 4294967296) + u0) - IntKind.u64.wrap (Q0 * Y)) = R0 := by
    simp only [IntKind.wrap_u64]; omega
  have FIN : Hid ((hi * 18446744073709551616 + lo) / y = Q1 * 4294967296 + Q0 ∧ (hi * 18446744073709551616 + lo) % y = R0 / 2 ^ s) := by
    have a := two_digits (Q1 := Q1) (Q0 := Q0) (U1 := U1) (u1 := u1) (u0 := u0) (Y := Y) (by omega) hu00 hu01 hQ1a hQ1b (by rw [← hR]; exact hQ0a) (by rw [← hR]; exact hQ0b)
    rw [← hR, ← hR0e, ← TOT.out, YS.out] at a
    have b := scaled (n := hi * 18446744073709551616 + lo) s (show 0 < y by omega)
    rw [a.1, a.2] at b
    exact ⟨b.1.symm, b.2.symm⟩
  have J0 : Hid _ := inv_start (Q := Q1) hU0 (by rw [← YE.out]; exact hU1) hu10 hu11 hy00 hy01 hy10 hQ10 (by rw [← YE.out]; exact hQ1a)
  have K0 : Hid _ := inv_start (Q := Q0) hR0 (by rw [← YE.out]; exact hR1) hu00 hu01 hy00 hy01 hy10 hQ00 (by rw [← YE.out]; exact hQ0a)
  have QA : Hid (Q1 * (y1 * 4294967296 + y0) ≤ U1 * 4294967296 + u1) := by rw [← YE.out]; exact hQ1a
  have QB : Hid (U1 * 4294967296 + u1 < (Q1 + 1) * (y1 * 4294967296 + y0)) := by rw [← YE.out]; exact hQ1b
  have PA : Hid (Q0 * (y1 * 4294967296 + y0) ≤ R * 4294967296 + u0) := by rw [← YE.out]; exact hQ0a
  have PB : Hid (R * 4294967296 + u0 < (Q0 + 1) * (y1 * 4294967296 + y0)) := by rw [← YE.out]; exact hQ0b
  have hU1' : Hid (U1 < y1 * 4294967296 + y0) := by rw [← YE.out]; exact hU1
  have hR1' : Hid (R < y1 * 4294967296 + y0) := by rw [← YE.out]; exact hR1
  have hqb : 0 ≤ U1 / y1 ∧ U1 / y1 ≤ 4294967297 := by have := J0.out.1.2.2; omega
  have hqb0 : 0 ≤ R / y1 ∧ R / y1 ≤ 4294967297 := by have := K0.out.1.2.2; omega
  have hrh : IntKind.u64.wrap (U1 - IntKind.u64.wrap (U1 / y1 * y1)) = U1 % y1 := by
    have a := J0.out.1.1; have b := J0.out.2; have c := J0.out.1.2.1; simp only [IntKind.wrap_u64]; omega
  have hrh0 : IntKind.u64.wrap (R - IntKind.u64.wrap (R / y1 * y1)) = R % y1 := by
    have a := K0.out.1.1; have b := K0.out.2; have c := K0.out.1.2.1; simp only [IntKind.wrap_u64]; omega
  have HR : Hid (R = U1 * 4294967296 + u1 - Q1 * Y) := hR
  clear hQ1a hQ1b hQ0a hQ0b hR hR0e
  have STEP : Hid (∀ q r : Int, Inv U1 y1 Q1 q r → r < 4294967296 → (4294967296 ≤ q ∨ 4294967296 * r + u1 < q * y0) → Inv U1 y1 Q1 (q - 1) (r + y1) ∧ (4294967296 ≤ r + y1 → q - 1 = Q1)) := by
    intro q r hI _ hc
    have h := inv_step hU1'.out hu10 hu11 hy00 hy10 QA.out hI hc
    exact ⟨h, fun g => inv_break hy00 hy01 hy10 hu10 QB.out h (by have := hI.2.2.2; omega) g⟩
  have STEP0 : Hid (∀ q r : Int, Inv R y1 Q0 q r → r < 4294967296 → (4294967296 ≤ q ∨ 4294967296 * r + u0 < q * y0) → Inv R y1 Q0 (q - 1) (r + y1) ∧ (4294967296 ≤ r + y1 → q - 1 = Q0)) := by
    intro q r hI _ hc
    have h := inv_step hR1'.out hu00 hu01 hy00 hy10 PA.out hI hc
    exact ⟨h, fun g => inv_break hy00 hy01 hy10 hu00 PB.out h (by have := hI.2.2.2; omega) g⟩
  have hm : Hid (∀ q : Int, 0 ≤ q → q < 4294967296 → 0 ≤ q * y0 ∧ q * y0 < 18446744073709551616) := by
    intro q a b
    have := Int.mul_nonneg a hy00
    have := Int.mul_le_mul (show q ≤ 4294967295 by omega) (show y0 ≤ 4294967295 by omega) hy00 (by omega)
    omega
  go_enter Tryz.func152, Tryz.ntmps152
  go_wp2_with (go_at_call 166; refine (lz64_any y _ (by omega) (by omega)).mono ?_; rintro e w' ⟨rfl, rfl⟩)
  go_loop [15, 16] (fun a b => ∃ q r : Int, a = .int .u64 q ∧ b = .int .u64 r ∧ Hid (Inv U1 y1 Q1 q r) ∧ r < 4294967296) (fun a _ => (intOf a).toNat)
  case atStart => exact ⟨_, _, rfl, rfl, J0.out.1, by have := J0.out.2; omega⟩
  case round =>
    obtain ⟨q, r, rfl, rfl, HI, hr⟩ := hrel
    have hI := HI.out
    have hq0 : Q1 ≤ q := hI.2.2.1
    have hq1 : q ≤ 4294967297 := hI.2.2.2
    have hr0 : 0 ≤ r := hI.2.1
    clear hI
    have hmq := hm.out q (by omega)
    by_cases hA : 4294967296 ≤ q
    · have hS := STEP.out q r HI.out hr (Or.inl hA)
      have S1 : Hid (Inv U1 y1 Q1 (q - 1) (r + y1)) := hS.1
      have hq2 : Q1 ≤ q - 1 := hS.1.2.2.1
      clear hmq
      by_cases hbr : 4294967296 ≤ r + y1
      · obtain rfl : q = Q1 + 1 := by have := hS.2 hbr; omega
        clear hS
        go_wp2
        go_loop [18, 16] (fun a b => ∃ q r : Int, a = .int .u64 q ∧ b = .int .u64 r ∧ Hid (Inv R y1 Q0 q r) ∧ r < 4294967296) (fun a _ => (intOf a).toNat)
        case atStart => exact ⟨_, _, rfl, rfl, K0.out.1, by have := K0.out.2; omega⟩
        case round =>
          obtain ⟨p, t, rfl, rfl, HI0, ht⟩ := hrel
          have hI := HI0.out
          have hp0 : Q0 ≤ p := hI.2.2.1
          have hp1 : p ≤ 4294967297 := hI.2.2.2
          have ht0 : 0 ≤ t := hI.2.1
          clear hI
          by_cases hA0 : 4294967296 ≤ p
          · have hS := STEP0.out p t HI0.out ht (Or.inl hA0)
            have S1 : Hid (Inv R y1 Q0 (p - 1) (t + y1)) := hS.1
            have hp2 : Q0 ≤ p - 1 := hS.1.2.2.1
            by_cases hbr0 : 4294967296 ≤ t + y1
            · obtain rfl : p = Q0 + 1 := by have := hS.2 hbr0; omega
              clear hS
              go_wp2
              go_ret2
              refine ⟨?_, rfl⟩
              rw [FIN.out.1, FIN.out.2]
              rfl
            · clear hS
              go_wp2
              go_round
              case rel => exact ⟨_, _, rfl, rfl, S1, by omega⟩
              case measure => simp [intOf]; omega
          · have hmq := hm.out p (by omega) (by omega)
            by_cases hB0 : 4294967296 * t + u0 < p * y0
            · have hS := STEP0.out p t HI0.out ht (Or.inr hB0)
              have S1 : Hid (Inv R y1 Q0 (p - 1) (t + y1)) := hS.1
              have hp2 : Q0 ≤ p - 1 := hS.1.2.2.1
              by_cases hbr0 : 4294967296 ≤ t + y1
              · obtain rfl : p = Q0 + 1 := by have := hS.2 hbr0; omega
                clear hS
                go_wp2
                go_ret2
                refine ⟨?_, rfl⟩
                rw [FIN.out.1, FIN.out.2]
                rfl
              · clear hS
                go_wp2
                go_round
                case rel => exact ⟨_, _, rfl, rfl, S1, by omega⟩
                case measure => simp [intOf]; omega
            · obtain rfl : p = Q0 := inv_end hy00 hy10 PB.out HI0.out (by omega)
              go_wp2
              go_ret2
              refine ⟨?_, rfl⟩
              rw [FIN.out.1, FIN.out.2]
              rfl
      · clear hS
        go_wp2
        go_round
        case rel => exact ⟨_, _, rfl, rfl, S1, by omega⟩
        case measure => simp [intOf]; omega
    · have hmq := hmq (by omega)
      by_cases hB : 4294967296 * r + u1 < q * y0
      · have hS := STEP.out q r HI.out hr (Or.inr hB)
        have S1 : Hid (Inv U1 y1 Q1 (q - 1) (r + y1)) := hS.1
        have hq2 : Q1 ≤ q - 1 := hS.1.2.2.1
        by_cases hbr : 4294967296 ≤ r + y1
        · obtain rfl : q = Q1 + 1 := by have := hS.2 hbr; omega
          clear hS
          go_wp2
          go_loop [18, 16] (fun a b => ∃ q r : Int, a = .int .u64 q ∧ b = .int .u64 r ∧ Hid (Inv R y1 Q0 q r) ∧ r < 4294967296) (fun a _ => (intOf a).toNat)
          case atStart => exact ⟨_, _, rfl, rfl, K0.out.1, by have := K0.out.2; omega⟩
          case round =>
            obtain ⟨p, t, rfl, rfl, HI0, ht⟩ := hrel
            have hI := HI0.out
            have hp0 : Q0 ≤ p := hI.2.2.1
            have hp1 : p ≤ 4294967297 := hI.2.2.2
            have ht0 : 0 ≤ t := hI.2.1
            clear hI
            by_cases hA0 : 4294967296 ≤ p
            · have hS := STEP0.out p t HI0.out ht (Or.inl hA0)
              have S1 : Hid (Inv R y1 Q0 (p - 1) (t + y1)) := hS.1
              have hp2 : Q0 ≤ p - 1 := hS.1.2.2.1
              by_cases hbr0 : 4294967296 ≤ t + y1
              · obtain rfl : p = Q0 + 1 := by have := hS.2 hbr0; omega
                clear hS
                go_wp2
                go_ret2
                refine ⟨?_, rfl⟩
                rw [FIN.out.1, FIN.out.2]
                rfl
              · clear hS
                go_wp2
                go_round
                case rel => exact ⟨_, _, rfl, rfl, S1, by omega⟩
                case measure => simp [intOf]; omega
            · have hmq := hm.out p (by omega) (by omega)
              by_cases hB0 : 4294967296 * t + u0 < p * y0
              · have hS := STEP0.out p t HI0.out ht (Or.inr hB0)
                have S1 : Hid (Inv R y1 Q0 (p - 1) (t + y1)) := hS.1
                have hp2 : Q0 ≤ p - 1 := hS.1.2.2.1
                by_cases hbr0 : 4294967296 ≤ t + y1
                · obtain rfl : p = Q0 + 1 := by have := hS.2 hbr0; omega
                  clear hS
                  go_wp2
                  go_ret2
                  refine ⟨?_, rfl⟩
                  rw [FIN.out.1, FIN.out.2]
                  rfl
                · clear hS
                  go_wp2
                  go_round
                  case rel => exact ⟨_, _, rfl, rfl, S1, by omega⟩
                  case measure => simp [intOf]; omega
              · obtain rfl : p = Q0 := inv_end hy00 hy10 PB.out HI0.out (by omega)
                go_wp2
                go_ret2
                refine ⟨?_, rfl⟩
                rw [FIN.out.1, FIN.out.2]
                rfl
        · clear hS
          go_wp2
          go_round
          case rel => exact ⟨_, _, rfl, rfl, S1, by omega⟩
          case measure => simp [intOf]; omega
      · obtain rfl : q = Q1 := inv_end hy00 hy10 QB.out HI.out (by omega)
        go_wp2
        go_loop [18, 16] (fun a b => ∃ q r : Int, a = .int .u64 q ∧ b = .int .u64 r ∧ Hid (Inv R y1 Q0 q r) ∧ r < 4294967296) (fun a _ => (intOf a).toNat)
        case atStart => exact ⟨_, _, rfl, rfl, K0.out.1, by have := K0.out.2; omega⟩
        case round =>
          obtain ⟨p, t, rfl, rfl, HI0, ht⟩ := hrel
          have hI := HI0.out
          have hp0 : Q0 ≤ p := hI.2.2.1
          have hp1 : p ≤ 4294967297 := hI.2.2.2
          have ht0 : 0 ≤ t := hI.2.1
          clear hI
          by_cases hA0 : 4294967296 ≤ p
          · have hS := STEP0.out p t HI0.out ht (Or.inl hA0)
            have S1 : Hid (Inv R y1 Q0 (p - 1) (t + y1)) := hS.1
            have hp2 : Q0 ≤ p - 1 := hS.1.2.2.1
            by_cases hbr0 : 4294967296 ≤ t + y1
            · obtain rfl : p = Q0 + 1 := by have := hS.2 hbr0; omega
              clear hS
              go_wp2
              go_ret2
              refine ⟨?_, rfl⟩
              rw [FIN.out.1, FIN.out.2]
              rfl
            · clear hS
              go_wp2
              go_round
              case rel => exact ⟨_, _, rfl, rfl, S1, by omega⟩
              case measure => simp [intOf]; omega
          · have hmq := hm.out p (by omega) (by omega)
            by_cases hB0 : 4294967296 * t + u0 < p * y0
            · have hS := STEP0.out p t HI0.out ht (Or.inr hB0)
              have S1 : Hid (Inv R y1 Q0 (p - 1) (t + y1)) := hS.1
              have hp2 : Q0 ≤ p - 1 := hS.1.2.2.1
              by_cases hbr0 : 4294967296 ≤ t + y1
              · obtain rfl : p = Q0 + 1 := by have := hS.2 hbr0; omega
                clear hS
                go_wp2
                go_ret2
                refine ⟨?_, rfl⟩
                rw [FIN.out.1, FIN.out.2]
                rfl
              · clear hS
                go_wp2
                go_round
                case rel => exact ⟨_, _, rfl, rfl, S1, by omega⟩
                case measure => simp [intOf]; omega
            · obtain rfl : p = Q0 := inv_end hy00 hy10 PB.out HI0.out (by omega)
              go_wp2
              go_ret2
              refine ⟨?_, rfl⟩
              rw [FIN.out.1, FIN.out.2]
              rfl
end Go.Proofs.YtbhdfjoagajipaaGreat
namespace Go.Proofs.YtbhdfjoagajipaaGreat
open Go.RowKit Fx

theorem i64_mul_lt (a b : Int) (ha0 : 0 ≤ a) (ha : a < 9223372036854775808) (hb0 : 0 ≤ b) (hb : b < 9223372036854775808) : 0 ≤ a * b ∧ a * b < 85070591730234615865843651857942052864 := by
  have h1 := Int.mul_nonneg ha0 hb0
  have h2 := Int.mul_le_mul (show a ≤ 9223372036854775807 by omega) (show b ≤ 9223372036854775807 by omega) hb0 (by omega)
  omega

set_option maxHeartbeats 1000000 in
theorem product_any (a b : Int) (w : World) (ha0 : -9223372036854775808 ≤ a) (ha : a < 9223372036854775808) (hb0 : -9223372036854775808 ≤ b) (hb : b < 9223372036854775808) :
    Calls Tryz.prog 126 #[.int .i64 a, .int .i64 b] w fun e w' => e = .returned (.agg #[.int .u64 (a * b / 18446744073709551616 % 18446744073709551616), .int .u64 (a * b % 18446744073709551616)]) ∧ Below w.heap.size w w' := by
  by_cases ga : a < 0
  · obtain ⟨ua, hua⟩ : ∃ u, u = a + 18446744073709551616 := ⟨_, rfl⟩
    have hwa : IntKind.u64.wrap a = ua := by rw [IntKind.wrap_u64]; omega
    have hu0 : 0 ≤ ua := by omega
    have hu1 : ua < 18446744073709551616 := by omega
    by_cases gb : b < 0
    · obtain ⟨ub, hub⟩ : ∃ u, u = b + 18446744073709551616 := ⟨_, rfl⟩
      have hwb : IntKind.u64.wrap b = ub := by rw [IntKind.wrap_u64]; omega
      have hv0 : 0 ≤ ub := by omega
      have hv1 : ub < 18446744073709551616 := by omega
      have hq : IntKind.u64.wrap (IntKind.u64.wrap (ua * ub / 18446744073709551616 - ub) - ua) = a * b / 18446744073709551616 % 18446744073709551616 := by
        rw [hua, hub, Int.add_mul, Int.mul_add, IntKind.wrap_u64, IntKind.wrap_u64]; omega
      have hm : ua * ub % 18446744073709551616 = a * b % 18446744073709551616 := by rw [hua, hub, Int.add_mul, Int.mul_add]; omega
      clear hua hub
      go_enter Tryz.func126, Tryz.ntmps126
      go_wp2_with (go_at_call 150; refine (mul64_any _ _ _ ?_ ?_ ?_ ?_).mono ?_; (omega); (omega); (omega); (omega); rintro e w' ⟨rfl, rfl⟩)
      go_returns
      exact ⟨rfl, by go_grown⟩
    · have hq : IntKind.u64.wrap (ua * b / 18446744073709551616 - b) = a * b / 18446744073709551616 % 18446744073709551616 := by
        rw [hua, Int.add_mul, IntKind.wrap_u64]; omega
      have hm : ua * b % 18446744073709551616 = a * b % 18446744073709551616 := by rw [hua, Int.add_mul]; omega
      clear hua
      go_enter Tryz.func126, Tryz.ntmps126
      go_wp2_with (go_at_call 150; refine (mul64_any _ _ _ ?_ ?_ ?_ ?_).mono ?_; (omega); (omega); (omega); (omega); rintro e w' ⟨rfl, rfl⟩)
      go_returns
      exact ⟨rfl, by go_grown⟩
  · by_cases gb : b < 0
    · obtain ⟨ub, hub⟩ : ∃ u, u = b + 18446744073709551616 := ⟨_, rfl⟩
      have hwb : IntKind.u64.wrap b = ub := by rw [IntKind.wrap_u64]; omega
      have hv0 : 0 ≤ ub := by omega
      have hv1 : ub < 18446744073709551616 := by omega
      have hq : IntKind.u64.wrap (a * ub / 18446744073709551616 - a) = a * b / 18446744073709551616 % 18446744073709551616 := by
        rw [hub, Int.mul_add, IntKind.wrap_u64]; omega
      have hm : a * ub % 18446744073709551616 = a * b % 18446744073709551616 := by rw [hub, Int.mul_add]; omega
      clear hub
      go_enter Tryz.func126, Tryz.ntmps126
      go_wp2_with (go_at_call 150; refine (mul64_any _ _ _ ?_ ?_ ?_ ?_).mono ?_; (omega); (omega); (omega); (omega); rintro e w' ⟨rfl, rfl⟩)
      go_returns
      exact ⟨rfl, by go_grown⟩
    · have hp := i64_mul_lt a b (by omega) ha (by omega) hb
      have hq : a * b / 18446744073709551616 % 18446744073709551616 = a * b / 18446744073709551616 := by omega
      go_enter Tryz.func126, Tryz.ntmps126
      go_wp2_with (go_at_call 150; refine (mul64_any _ _ _ ?_ ?_ ?_ ?_).mono ?_; (omega); (omega); (omega); (omega); rintro e w' ⟨rfl, rfl⟩)
      go_returns
      exact ⟨by rw [hq], by go_grown⟩

theorem ret_bool {a b : Bool} (h : a = b) : Ending.returned (.bool a) = .returned (.bool b) := by rw [h]
set_option maxHeartbeats 1000000 in
theorem below0_any (X : Int) (w : World) (h0 : -170141183460469231731687303715884105728 ≤ X) (h1 : X < 170141183460469231731687303715884105728) :
    Calls Tryz.prog 153 #[.agg #[.int .u64 (X / 18446744073709551616 % 18446744073709551616), .int .u64 (X % 18446744073709551616)]] w fun e w' =>
      e = .returned (.bool (decide (X < 0))) ∧ Below w.heap.size w w' := by
  go_enter Tryz.func153, Tryz.ntmps153
  go_wp2
  go_returns
  refine ⟨ret_bool ?_, by go_grown⟩
  rw [decide_eq_decide]
  unfold wrap64
  omega

set_option maxHeartbeats 1000000 in
theorem size_any (X Z : Int) (w : World) (h0 : -170141183460469231731687303715884105728 < X) (h1 : X < 170141183460469231731687303715884105728) (hZ : (0 ≤ X ∧ Z = X) ∨ (X < 0 ∧ Z = -X)) :
    Calls Tryz.prog 151 #[.agg #[.int .u64 (X / 18446744073709551616 % 18446744073709551616), .int .u64 (X % 18446744073709551616)]] w fun e w' =>
      e = .returned (.agg #[.int .u64 (Z / 18446744073709551616 % 18446744073709551616), .int .u64 (Z % 18446744073709551616)]) ∧ Below w.heap.size w w' := by
  obtain ⟨h, hh⟩ : ∃ u, u = X / 18446744073709551616 % 18446744073709551616 := ⟨_, rfl⟩
  obtain ⟨l, hl⟩ : ∃ u, u = X % 18446744073709551616 := ⟨_, rfl⟩
  rcases hZ with ⟨g, rfl⟩ | ⟨g, hZ⟩
  · rw [← hl, ← hh]
    have hn : ¬ wrap64 h < 0 := by unfold wrap64; omega
    clear hl hh
    go_enter Tryz.func151, Tryz.ntmps151
    go_wp2
    go_returns
    exact ⟨rfl, by go_grown⟩
  · rw [← hl, ← hh]
    have hn : wrap64 h < 0 := by unfold wrap64; omega
    by_cases gl : l = 0
    · have r1 := fun w => sub64_run 0 l 0 w (by omega) (by omega) (by omega) (by omega) (by omega) (by omega)
      have r2 := fun w => sub64_run 0 h 0 w (by omega) (by omega) (by omega) (by omega) (by omega) (by omega)
      have e1 : (0 - h - 0) % 18446744073709551616 = Z / 18446744073709551616 % 18446744073709551616 := by omega
      have e2 : (0 - l - 0) % 18446744073709551616 = Z % 18446744073709551616 := by omega
      rw [if_neg (by omega)] at r1
      rw [e2] at r1
      rw [e1, if_pos (by omega)] at r2
      clear hl hh hZ e1 e2 gl
      go_enter Tryz.func151, Tryz.ntmps151
      go_wp2
      go_returns
      exact ⟨rfl, by go_grown⟩
    · have r1 := fun w => sub64_run 0 l 0 w (by omega) (by omega) (by omega) (by omega) (by omega) (by omega)
      have r2 := fun w => sub64_run 0 h 1 w (by omega) (by omega) (by omega) (by omega) (by omega) (by omega)
      have e1 : (0 - h - 1) % 18446744073709551616 = Z / 18446744073709551616 % 18446744073709551616 := by omega
      have e2 : (0 - l - 0) % 18446744073709551616 = Z % 18446744073709551616 := by omega
      rw [if_pos (by omega)] at r1
      rw [e2] at r1
      rw [e1, if_pos (by omega)] at r2
      clear hl hh hZ e1 e2 gl
      go_enter Tryz.func151, Tryz.ntmps151
      go_wp2
      go_returns
      exact ⟨rfl, by go_grown⟩

set_option maxHeartbeats 1000000 in
theorem div64_any (hi lo y : Int) (w : World) (hh0 : 0 ≤ hi) (hh : hi < y) (hl0 : 0 ≤ lo) (hl : lo < 18446744073709551616) (hy : y < 4611686018427387904) :
    Calls Tryz.prog 152 #[.int .u64 hi, .int .u64 lo, .int .u64 y] w fun e w' => e = .returned (.tuple #[.int .u64 ((hi * 18446744073709551616 + lo) / y), .int .u64 ((hi * 18446744073709551616 + lo) % y)]) ∧ ∃ n, w' = w.drewN n := by
  rcases Int.lt_or_eq_of_le hh0 with h | h
  · exact (div64_hi hi lo y w (by omega) hh hl0 hl hy).mono fun e w' ⟨a, b⟩ => ⟨a, 0, by rw [b]; rfl⟩
  · subst h
    exact (div64_lo lo y w hl0 hl (by omega) hy).mono fun e w' ⟨a, b⟩ => ⟨by rw [a]; simp, 1, by rw [b]; rfl⟩

end Go.Proofs.YtbhdfjoagajipaaGreat
namespace Go.Proofs.YtbhdfjoagajipaaGreat
open Go.RowKit Fx

theorem below0_neg (X : Int) (w : World) (h0 : -170141183460469231731687303715884105728 ≤ X) (g : X < 0) :
    Calls Tryz.prog 153 #[.agg #[.int .u64 (X / 18446744073709551616 % 18446744073709551616), .int .u64 (X % 18446744073709551616)]] w fun e w' =>
      e = .returned (.bool true) ∧ Below w.heap.size w w' := by
  simpa [g] using below0_any X w h0 (by omega)

theorem below0_pos (X : Int) (w : World) (h1 : X < 170141183460469231731687303715884105728) (g : 0 ≤ X) :
    Calls Tryz.prog 153 #[.agg #[.int .u64 (X / 18446744073709551616 % 18446744073709551616), .int .u64 (X % 18446744073709551616)]] w fun e w' =>
      e = .returned (.bool false) ∧ Below w.heap.size w w' := by
  simpa [show ¬ X < 0 by omega] using below0_any X w (by omega) h1

theorem boxed {W w1 : World} {u v : Value} {t : TypeId} (hb : Below (W.alloc (.cells #[u, v] t)).heap.size (W.alloc (.cells #[u, v] t)) w1) :
    w1.cell? ⟨W.heap.size, 0, none⟩ = some u ∧ w1.cell? ⟨W.heap.size, 1, none⟩ = some v ∧ W.heap.size < w1.heap.size := by
  refine ⟨?_, ?_, ?_⟩
  · rw [hb.cell (by simp)]; simp
  · rw [hb.cell (by simp)]; simp
  · have := hb.size; simp at this; omega

theorem by_world {w w1 w3 : World} {o o' : Obj} {n : Nat} (hb : Below (w.alloc o).heap.size (w.alloc o) w1) (hb3 : Below ((w1.alloc o').drewN n).heap.size ((w1.alloc o').drewN n) w3) : Below w.heap.size w w3 := by
  have a : Below w.heap.size w (w.alloc o) := (Below.refl _ _).alloc (Nat.le_refl _) _
  have s1 := hb.size
  have b : Below w.heap.size w w1 := a.trans (hb.mono (by simp))
  have c : Below w.heap.size w ((w1.alloc o').drewN n) := below_drewN (b.alloc (by simp at s1; omega) _) n
  exact c.trans (hb3.mono (by simp; simp at s1; omega))

set_option maxHeartbeats 2000000 in
theorem by_any (X c Z d : Int) (w : World) (h0 : -170141183460469231731687303715884105728 < X) (h1 : X < 170141183460469231731687303715884105728)
    (hZ : (0 ≤ X ∧ Z = X) ∨ (X < 0 ∧ Z = -X)) (hd : (0 < c ∧ d = c) ∨ (c < 0 ∧ d = -c)) (hc : d ≤ 4611686018427387903) (hn : Z / d ≤ 4611686018427387903) :
    Calls Tryz.prog 127 #[.agg #[.int .u64 (X / 18446744073709551616 % 18446744073709551616), .int .u64 (X % 18446744073709551616)], .int .i64 c] w fun e w' =>
      e = .returned (.tuple #[.int .i64 (fl X c), .bool true]) ∧ Below w.heap.size w w' := by
  obtain ⟨xh, hxh⟩ : ∃ u, u = X / 18446744073709551616 % 18446744073709551616 := ⟨_, rfl⟩
  obtain ⟨xl, hxl⟩ : ∃ u, u = X % 18446744073709551616 := ⟨_, rfl⟩
  obtain ⟨zh, hzh⟩ : ∃ u, u = Z / 18446744073709551616 % 18446744073709551616 := ⟨_, rfl⟩
  obtain ⟨zl, hzl⟩ : ∃ u, u = Z % 18446744073709551616 := ⟨_, rfl⟩
  have hd0 : 0 < d := by omega
  have hZ0 : 0 ≤ Z := by omega
  have hZe : zh * 18446744073709551616 + zl = Z := by omega
  obtain ⟨n, hne⟩ : ∃ n, Z / d = n := ⟨_, rfl⟩
  obtain ⟨r, hre⟩ : ∃ r, Z % d = r := ⟨_, rfl⟩
  have hn0 : 0 ≤ n := by rw [← hne]; exact Int.ediv_nonneg hZ0 (by omega)
  rw [hne] at hn
  have hzd : zh < d := by
    have h := (div_is Z d hd0).2
    rw [hne] at h
    have g : (n + 1) * d ≤ 4611686018427387904 * d := Int.mul_le_mul_of_nonneg_right (by omega) (by omega)
    omega
  have hz0 : 0 ≤ zh := by omega
  have hl0 : 0 ≤ zl := by omega
  have hl1 : zl < 18446744073709551616 := by omega
  have hr0 : 0 ≤ r := by rw [← hre]; exact Int.emod_nonneg _ (by omega)
  have CS : Hid _ := fun w => size_any X Z w h0 h1 hZ
  have CD : Hid _ := fun w => div64_any zh zl d w hz0 hzd hl0 hl1 (by omega)
  have NEG : Hid ((-Z) / d = if r = 0 then -n else -(n + 1)) := by rw [← hne, ← hre]; exact neg_div hd0
  have hdr : Hid (r < d) := by rw [← hre]; exact Int.emod_lt_of_pos _ hd0
  simp only [Hid] at CS CD
  rw [hZe, hne, hre] at CD
  rcases hZ with ⟨gX, eZ⟩ | ⟨gX, eZ⟩
  · have CB := fun w => below0_pos X w h1 gX
    rw [← hxh, ← hxl] at *
    rw [← hzh, ← hzl] at CS
    have CS : Hid _ := CS
    have CD : Hid _ := CD
    have CB : Hid _ := CB
    rcases hd with ⟨gc, ed⟩ | ⟨gc, ed⟩
    · have hfl : fl X c = n := by unfold fl; rw [if_neg (by omega), ← hne, eZ, ed]
      rw [hfl]
      have hdec : decide (c < 0) = false := by simp; omega
      subst ed
      clear hxh hxl hzh hzl hZe hne hre eZ hfl h0 h1 NEG
      go_enter Tryz.func127, Tryz.ntmps127
      go_wp2_with (first | (go_at_call 151; refine (CS.out _).mono ?_; rintro e w1 ⟨rfl, hb⟩; obtain ⟨c1, c2, hsz⟩ := boxed hb) | (go_at_call 152; refine (CD.out _).mono ?_; rintro e w2 ⟨rfl, nn, rfl⟩) | (go_at_call 153; refine (CB.out _).mono ?_; rintro e w3 ⟨rfl, hb3⟩))
      go_returns
      exact ⟨rfl, by_world hb hb3⟩
    · have hfl : fl X c = if r = 0 then -n else -(n + 1) := by unfold fl; rw [if_pos (by omega), ← eZ, ← ed]; exact NEG.out
      rw [hfl]
      subst ed
      clear hxh hxl hzh hzl hZe hne hre eZ hfl h0 h1 NEG
      by_cases gr : r = 0
      · rw [if_pos gr]
        have gr' : (r != 0) = false := by simp [gr]
        clear gr
        go_enter Tryz.func127, Tryz.ntmps127
        go_wp2_with (first | (go_at_call 151; refine (CS.out _).mono ?_; rintro e w1 ⟨rfl, hb⟩; obtain ⟨c1, c2, hsz⟩ := boxed hb) | (go_at_call 152; refine (CD.out _).mono ?_; rintro e w2 ⟨rfl, nn, rfl⟩) | (go_at_call 153; refine (CB.out _).mono ?_; rintro e w3 ⟨rfl, hb3⟩))
        go_returns
        exact ⟨rfl, by_world hb hb3⟩
      · rw [if_neg gr]
        have gr' : (r != 0) = true := by simp [gr]
        clear gr
        go_enter Tryz.func127, Tryz.ntmps127
        go_wp2_with (first | (go_at_call 151; refine (CS.out _).mono ?_; rintro e w1 ⟨rfl, hb⟩; obtain ⟨c1, c2, hsz⟩ := boxed hb) | (go_at_call 152; refine (CD.out _).mono ?_; rintro e w2 ⟨rfl, nn, rfl⟩) | (go_at_call 153; refine (CB.out _).mono ?_; rintro e w3 ⟨rfl, hb3⟩))
        go_returns
        exact ⟨rfl, by_world hb hb3⟩
  · have CB := fun w => below0_neg X w (by omega) gX
    rw [← hxh, ← hxl] at *
    rw [← hzh, ← hzl] at CS
    have CS : Hid _ := CS
    have CD : Hid _ := CD
    have CB : Hid _ := CB
    rcases hd with ⟨gc, ed⟩ | ⟨gc, ed⟩
    · have hfl : fl X c = if r = 0 then -n else -(n + 1) := by unfold fl; rw [if_neg (by omega), show X = -Z by omega, ← ed]; exact NEG.out
      rw [hfl]
      subst ed
      clear hxh hxl hzh hzl hZe hne hre eZ hfl h0 h1 NEG
      by_cases gr : r = 0
      · rw [if_pos gr]
        have gr' : (r != 0) = false := by simp [gr]
        clear gr
        go_enter Tryz.func127, Tryz.ntmps127
        go_wp2_with (first | (go_at_call 151; refine (CS.out _).mono ?_; rintro e w1 ⟨rfl, hb⟩; obtain ⟨c1, c2, hsz⟩ := boxed hb) | (go_at_call 152; refine (CD.out _).mono ?_; rintro e w2 ⟨rfl, nn, rfl⟩) | (go_at_call 153; refine (CB.out _).mono ?_; rintro e w3 ⟨rfl, hb3⟩))
        go_returns
        exact ⟨rfl, by_world hb hb3⟩
      · rw [if_neg gr]
        have gr' : (r != 0) = true := by simp [gr]
        clear gr
        go_enter Tryz.func127, Tryz.ntmps127
        go_wp2_with (first | (go_at_call 151; refine (CS.out _).mono ?_; rintro e w1 ⟨rfl, hb⟩; obtain ⟨c1, c2, hsz⟩ := boxed hb) | (go_at_call 152; refine (CD.out _).mono ?_; rintro e w2 ⟨rfl, nn, rfl⟩) | (go_at_call 153; refine (CB.out _).mono ?_; rintro e w3 ⟨rfl, hb3⟩))
        go_returns
        exact ⟨rfl, by_world hb hb3⟩
    · have hfl : fl X c = n := by unfold fl; rw [if_pos (by omega), ← hne, eZ, ed]
      rw [hfl]
      subst ed
      clear hxh hxl hzh hzl hZe hne hre eZ hfl h0 h1 NEG
      go_enter Tryz.func127, Tryz.ntmps127
      go_wp2_with (first | (go_at_call 151; refine (CS.out _).mono ?_; rintro e w1 ⟨rfl, hb⟩; obtain ⟨c1, c2, hsz⟩ := boxed hb) | (go_at_call 152; refine (CD.out _).mono ?_; rintro e w2 ⟨rfl, nn, rfl⟩) | (go_at_call 153; refine (CB.out _).mono ?_; rintro e w3 ⟨rfl, hb3⟩))
      go_returns
      exact ⟨rfl, by_world hb hb3⟩

set_option maxHeartbeats 2000000 in
theorem by_none (X c Z d : Int) (w : World) (h0 : -170141183460469231731687303715884105728 < X) (h1 : X < 170141183460469231731687303715884105728)
    (hZ : (0 ≤ X ∧ Z = X) ∨ (X < 0 ∧ Z = -X)) (hd : (0 < c ∧ d = c) ∨ (c < 0 ∧ d = -c)) (hc : d ≤ 4611686018427387903) (hn : 4611686018427387903 < Z / d) :
    Calls Tryz.prog 127 #[.agg #[.int .u64 (X / 18446744073709551616 % 18446744073709551616), .int .u64 (X % 18446744073709551616)], .int .i64 c] w fun e w' =>
      e = .returned (.tuple #[.int .i64 0, .bool false]) ∧ Below w.heap.size w w' := by
  obtain ⟨xh, hxh⟩ : ∃ u, u = X / 18446744073709551616 % 18446744073709551616 := ⟨_, rfl⟩
  obtain ⟨xl, hxl⟩ : ∃ u, u = X % 18446744073709551616 := ⟨_, rfl⟩
  obtain ⟨zh, hzh⟩ : ∃ u, u = Z / 18446744073709551616 % 18446744073709551616 := ⟨_, rfl⟩
  obtain ⟨zl, hzl⟩ : ∃ u, u = Z % 18446744073709551616 := ⟨_, rfl⟩
  have hd0 : 0 < d := by omega
  have hZ0 : 0 ≤ Z := by omega
  have hZe : zh * 18446744073709551616 + zl = Z := by omega
  obtain ⟨n, hne⟩ : ∃ n, Z / d = n := ⟨_, rfl⟩
  obtain ⟨r, hre⟩ : ∃ r, Z % d = r := ⟨_, rfl⟩
  rw [hne] at hn
  have hz0 : 0 ≤ zh := by omega
  have hl0 : 0 ≤ zl := by omega
  have hl1 : zl < 18446744073709551616 := by omega
  have hr0 : 0 ≤ r := by rw [← hre]; exact Int.emod_nonneg _ (by omega)
  have CS := fun w => size_any X Z w h0 h1 hZ
  rw [← hxh, ← hxl] at *
  rw [← hzh, ← hzl] at CS
  by_cases hzd : zh < d
  · have CD := fun w => div64_any zh zl d w hz0 hzd hl0 hl1 (by omega)
    rw [hZe, hne, hre] at CD
    have CS : Hid _ := CS
    have CD : Hid _ := CD
    clear hxh hxl hzh hzl hZe hne hre h0 h1 hZ
    rcases hd with ⟨gc, ed⟩ | ⟨gc, ed⟩ <;> subst ed
    all_goals
      go_enter Tryz.func127, Tryz.ntmps127
      go_wp2_with (first | (go_at_call 151; refine (CS.out _).mono ?_; rintro e w1 ⟨rfl, hb⟩; obtain ⟨c1, c2, hsz⟩ := boxed hb) | (go_at_call 152; refine (CD.out _).mono ?_; rintro e w2 ⟨rfl, nn, rfl⟩))
      go_returns
      exact ⟨rfl, by_world hb (Below.refl _ _)⟩
  · have CS : Hid _ := CS
    clear hxh hxl hzh hzl hZe hne hre h0 h1 hZ
    rcases hd with ⟨gc, ed⟩ | ⟨gc, ed⟩ <;> subst ed
    all_goals
      go_enter Tryz.func127, Tryz.ntmps127
      go_wp2_with (first | (go_at_call 151; refine (CS.out _).mono ?_; rintro e w1 ⟨rfl, hb⟩; obtain ⟨c1, c2, hsz⟩ := boxed hb))
      go_returns
      exact ⟨rfl, by_world (n := 0) hb (Below.refl _ _)⟩
end Go.Proofs.YtbhdfjoagajipaaGreat
namespace Go.Proofs.YtbhdfjoagajipaaGreat
open Go.RowKit Fx

theorem great_step (zs : List Int) (k : Nat) (h : k < zs.length) (hn : (zs.take k).any great = false) : (zs.take (k + 1)).any great = great (zs.getD k 0) := by
  rw [List.take_succ_eq_append_getElem h, List.any_append, hn]
  simp [List.getD_eq_getElem?_getD, List.getElem?_eq_getElem h]

set_option maxHeartbeats 1000000 in
theorem great_any (zs : List Int) (b off cap : Nat) (w : World) (hlen : zs.length ≤ 4611686018427387904) (hc : ∀ k, k < zs.length → w.cell? ⟨b, off + k, none⟩ = some (.int .i64 (zs.getD k 0))) :
    Calls Tryz.prog 123 #[.slice (some ⟨b, off, none⟩) zs.length cap] w fun e w' => e = .returned (.bool (zs.any great)) ∧ w' = w := by
  have HC : Hid _ := hc
  clear hc
  go_enter Tryz.func123, Tryz.ntmps123
  go_wp2
  go_loop [7] (fun i => ∃ k : Nat, k ≤ zs.length ∧ i = .int .i64 k ∧ Hid ((zs.take k).any great = false)) (fun i => zs.length - (intOf i).toNat)
  case atStart => exact ⟨0, Nat.zero_le _, rfl, by simp [Hid]⟩
  case round =>
    obtain ⟨k, hk, rfl, HG⟩ := hrel
    by_cases hlt : k < zs.length
    · have hcell := HC.out k hlt
      have hs := great_step zs k hlt HG.out
      obtain ⟨z, hz⟩ : ∃ z, zs.getD k 0 = z := ⟨_, rfl⟩
      rw [hz] at hcell hs
      have HS : Hid _ := hs
      clear hs hz
      by_cases g1 : z < -4611686018427387903
      · have hany : zs.any great = true := by
          have : (zs.take (k + 1)).any great = true := by rw [HS.out]; simp [great, g1]
          rw [List.any_eq_true] at this ⊢
          obtain ⟨x, hx, hg⟩ := this
          exact ⟨x, List.mem_of_mem_take hx, hg⟩
        go_wp2
        go_ret
        exact ⟨rfl, rfl⟩
      · by_cases g2 : 4611686018427387903 < z
        · have hany : zs.any great = true := by
            have : (zs.take (k + 1)).any great = true := by rw [HS.out]; simp [great, g2]
            rw [List.any_eq_true] at this ⊢
            obtain ⟨x, hx, hg⟩ := this
            exact ⟨x, List.mem_of_mem_take hx, hg⟩
          go_wp2
          go_ret
          exact ⟨rfl, rfl⟩
        · have hno : Hid ((zs.take (k + 1)).any great = false) := by
            show _ = false
            rw [HS.out]; simp [great]; omega
          go_wp2
          go_round
          case rel => exact ⟨k + 1, by omega, by go_num, hno⟩
          case measure => simp [intOf]; omega
    · have hany : zs.any great = false := by
        have := HG.out
        rwa [List.take_of_length_le (by omega)] at this
      go_wp2
      go_ret
      exact ⟨rfl, rfl⟩

set_option maxHeartbeats 1000000 in
theorem none_any (b off : Nat) (f : Bool) (w : World) (hc : w.cell? ⟨b, off, none⟩ = some (.bool f)) (hf : w.frozen? ⟨b, off, none⟩ = false) :
    Calls Tryz.prog 124 #[.pointer (some ⟨b, off, none⟩)] w fun e w' => e = .returned (.int .i64 0) ∧ w' = w.setCell ⟨b, off, none⟩ (.bool true) := by
  go_enter Tryz.func124, Tryz.ntmps124
  go_wp2
  go_ret
  exact ⟨rfl, rfl⟩

theorem great1 (a : Int) (w : World) : Calls Tryz.prog 123 #[.slice (some ⟨w.heap.size, 0, none⟩) 1 1] (w.alloc (.cells #[.int .i64 a] 3)) fun e w' => e = .returned (.bool (great a)) ∧ w' = w.alloc (.cells #[.int .i64 a] 3) := by
  have h := great_any [a] w.heap.size 0 1 (w.alloc (.cells #[.int .i64 a] 3)) (by simp) (fun k hk => by
    match k, hk with
    | 0, _ => simp)
  simpa using h

theorem great2 (a b : Int) (w : World) : Calls Tryz.prog 123 #[.slice (some ⟨w.heap.size, 0, none⟩) 2 2] (w.alloc (.cells #[.int .i64 a, .int .i64 b] 3)) fun e w' => e = .returned (.bool (great a || great b)) ∧ w' = w.alloc (.cells #[.int .i64 a, .int .i64 b] 3) := by
  have h := great_any [a, b] w.heap.size 0 2 (w.alloc (.cells #[.int .i64 a, .int .i64 b] 3)) (by simp) (fun k hk => by
    match k, hk with
    | 0, _ => simp
    | 1, _ => simp)
  simpa using h

theorem great3 (a b c : Int) (w : World) : Calls Tryz.prog 123 #[.slice (some ⟨w.heap.size, 0, none⟩) 3 3] (w.alloc (.cells #[.int .i64 a, .int .i64 b, .int .i64 c] 3)) fun e w' => e = .returned (.bool (great a || (great b || great c))) ∧ w' = w.alloc (.cells #[.int .i64 a, .int .i64 b, .int .i64 c] 3) := by
  have h := great_any [a, b, c] w.heap.size 0 3 (w.alloc (.cells #[.int .i64 a, .int .i64 b, .int .i64 c] 3)) (by simp) (fun k hk => by
    match k, hk with
    | 0, _ => simp
    | 1, _ => simp
    | 2, _ => simp)
  simpa using h

/-- What a call that tells o leaves of the flag at p. -/
def mark (p : Addr) (o : Option Int) (w : World) : World := if o.isNone then w.setCell p (.bool true) else w

theorem set_after {w w1 : World} {p : Addr} {v : Value} (hb : Below w.heap.size w w1) : Below w.heap.size (w.setCell p v) (w1.setCell p v) := by
  refine ⟨hb.os, hb.tape, hb.output, by simpa [World.setCell] using hb.size, fun k hk => ?_⟩
  simp only [World.setCell, Array.getElem?_modify]
  rw [hb.block k hk]

theorem cell_after {w w1 : World} {p : Addr} {v : Value} (hb : Below w.heap.size w w1) (hc : w.cell? p = some v) : w1.cell? p = some v := (hb.cell (World.block_lt_of_cell? _ _ hc)).trans hc
theorem frozen_after {w w1 : World} {p : Addr} {v : Value} (hb : Below w.heap.size w w1) (hc : w.cell? p = some v) (hf : w.frozen? p = false) : w1.frozen? p = false := (hb.frozen (World.block_lt_of_cell? _ _ hc)).trans hf
theorem new_after (w : World) (o : Obj) : Below w.heap.size w (w.alloc o) := (Below.refl _ _).alloc (Nat.le_refl _) _

set_option maxHeartbeats 1000000 in
theorem tell_yes (b off : Nat) (n : Int) (w : World) (hg : great n = false) :
    Calls Tryz.prog 125 #[.pointer (some ⟨b, off, none⟩), .int .i64 n, .bool true] w fun e w' => e = .returned (.int .i64 n) ∧ Below w.heap.size w w' := by
  have C1 : Hid _ := great1 n w
  rw [hg] at C1
  clear hg
  go_enter Tryz.func125, Tryz.ntmps125
  go_wp2_with (go_at_call 123; refine (Calls.mono C1.out ?_); rintro e w' ⟨rfl, rfl⟩)
  go_ret
  exact ⟨rfl, by go_grown⟩

set_option maxHeartbeats 1000000 in
theorem tell_great (b off : Nat) (f : Bool) (n : Int) (w : World) (hc : w.cell? ⟨b, off, none⟩ = some (.bool f)) (hf : w.frozen? ⟨b, off, none⟩ = false) (hg : great n = true) :
    Calls Tryz.prog 125 #[.pointer (some ⟨b, off, none⟩), .int .i64 n, .bool true] w fun e w' => e = .returned (.int .i64 0) ∧ Below w.heap.size (w.setCell ⟨b, off, none⟩ (.bool true)) w' := by
  have C1 := great1 n w
  have hb := new_after w (.cells #[.int .i64 n] 3)
  have C2 : Hid _ := none_any b off f (w.alloc (.cells #[.int .i64 n] 3)) (cell_after hb hc) (frozen_after hb hc hf)
  have HB : Hid _ := set_after (p := ⟨b, off, none⟩) (v := .bool true) hb
  rw [hg] at C1
  have K1 : Hid _ := C1
  clear hg C1 hb hc hf
  go_enter Tryz.func125, Tryz.ntmps125
  go_wp2_with (first | (go_at_call 123; refine (Calls.mono K1.out ?_); rintro e w' ⟨rfl, rfl⟩) | (go_at_call 124; refine (Calls.mono C2.out ?_); rintro e w' ⟨rfl, rfl⟩))
  go_ret
  exact ⟨rfl, HB.out⟩

set_option maxHeartbeats 1000000 in
theorem tell_no (b off : Nat) (f : Bool) (n : Int) (w : World) (hc : w.cell? ⟨b, off, none⟩ = some (.bool f)) (hf : w.frozen? ⟨b, off, none⟩ = false) :
    Calls Tryz.prog 125 #[.pointer (some ⟨b, off, none⟩), .int .i64 n, .bool false] w fun e w' => e = .returned (.int .i64 0) ∧ Below w.heap.size (w.setCell ⟨b, off, none⟩ (.bool true)) w' := by
  have C2 : Hid _ := none_any b off f w hc hf
  clear hc hf
  go_enter Tryz.func125, Tryz.ntmps125
  go_wp2_with (go_at_call 124; refine (Calls.mono C2.out ?_); rintro e w' ⟨rfl, rfl⟩)
  go_ret
  exact ⟨rfl, Below.refl _ _⟩

/-- tell, where the number fits: it tells the number, unless it is great. -/
theorem tell_any (b off : Nat) (f : Bool) (n : Int) (w : World) (hc : w.cell? ⟨b, off, none⟩ = some (.bool f)) (hf : w.frozen? ⟨b, off, none⟩ = false) :
    Calls Tryz.prog 125 #[.pointer (some ⟨b, off, none⟩), .int .i64 n, .bool true] w fun e w' => e = .returned (.int .i64 ((Fx.told n).getD 0)) ∧ Below w.heap.size (mark ⟨b, off, none⟩ (Fx.told n) w) w' := by
  cases hg : great n
  · simpa [Fx.told, hg, mark] using tell_yes b off n w hg
  · simpa [Fx.told, hg, mark] using tell_great b off f n w hc hf hg

theorem tell_any_none (b off : Nat) (f : Bool) (n : Int) (w : World) (hc : w.cell? ⟨b, off, none⟩ = some (.bool f)) (hf : w.frozen? ⟨b, off, none⟩ = false) :
    Calls Tryz.prog 125 #[.pointer (some ⟨b, off, none⟩), .int .i64 n, .bool false] w fun e w' => e = .returned (.int .i64 ((none : Option Int).getD 0)) ∧ Below w.heap.size (mark ⟨b, off, none⟩ none w) w' := by
  simpa [mark] using tell_no b off f n w hc hf

theorem mark_after {w w1 w2 : World} {p : Addr} {o : Option Int} (h1 : Below w.heap.size w w1) (h2 : Below w1.heap.size (mark p o w1) w2) : Below w.heap.size (mark p o w) w2 := by
  have hs := h1.size
  cases o with
  | none => exact (set_after h1).trans (h2.mono hs)
  | some n => exact h1.trans (h2.mono hs)

set_option maxHeartbeats 1000000 in
theorem add_any (b off : Nat) (f : Bool) (x y : Int) (w : World) (hc : w.cell? ⟨b, off, none⟩ = some (.bool f)) (hf : w.frozen? ⟨b, off, none⟩ = false) :
    Calls Tryz.prog 84 #[.pointer (some ⟨b, off, none⟩), .int .i64 x, .int .i64 y] w fun e w' => e = .returned (.int .i64 ((add x y).getD 0)) ∧ Below w.heap.size (mark ⟨b, off, none⟩ (add x y) w) w' := by
  have C1 := great2 x y w
  have hb := new_after w (.cells #[.int .i64 x, .int .i64 y] 3)
  have hc' := cell_after hb hc
  have hf' := frozen_after hb hc hf
  cases hg : (great x || great y)
  · have hadd : add x y = Fx.told (x + y) := by simp [add, hg]
    rw [hadd]
    rw [hg] at C1
    have hx : -4611686018427387903 ≤ x ∧ x ≤ 4611686018427387903 := (not_great x).1 (by simp at hg; exact hg.1)
    have hy : -4611686018427387903 ≤ y ∧ y ≤ 4611686018427387903 := (not_great y).1 (by simp at hg; exact hg.2)
    have C2 : Hid _ := tell_any b off f (x + y) _ hc' hf'
    have K1 : Hid _ := C1
    have HB : Hid _ := hb
    clear C1 hb hc hf hc' hf' hg hadd
    go_enter Tryz.func84, Tryz.ntmps84
    go_wp2_with (first | (go_at_call 123; refine (Calls.mono K1.out ?_); rintro e w' ⟨rfl, rfl⟩) | (go_at_call 125; refine (Calls.mono C2.out ?_); rintro e w' ⟨rfl, hb2⟩))
    go_ret
    exact ⟨rfl, mark_after HB.out hb2⟩
  · have hadd : add x y = none := by simp only [add, hg, if_true]
    rw [hadd]
    rw [hg] at C1
    have C2 : Hid _ := none_any b off f _ hc' hf'
    have K1 : Hid _ := C1
    have HB : Hid _ := set_after (p := ⟨b, off, none⟩) (v := .bool true) hb
    clear C1 hb hc hf hc' hf' hg hadd
    go_enter Tryz.func84, Tryz.ntmps84
    go_wp2_with (first | (go_at_call 123; refine (Calls.mono K1.out ?_); rintro e w' ⟨rfl, rfl⟩) | (go_at_call 124; refine (Calls.mono C2.out ?_); rintro e w' ⟨rfl, rfl⟩))
    go_ret
    exact ⟨rfl, HB.out⟩
end Go.Proofs.YtbhdfjoagajipaaGreat
namespace Go.Proofs.YtbhdfjoagajipaaGreat
open Go.RowKit Fx

theorem below_step {w w1 w2 : World} (h1 : Below w.heap.size w w1) (h2 : Below w1.heap.size w1 w2) : Below w.heap.size w w2 := h1.trans (h2.mono h1.size)

theorem small_prod {x y : Int} (hx : -4611686018427387903 ≤ x ∧ x ≤ 4611686018427387903) (hy : -4611686018427387903 ≤ y ∧ y ≤ 4611686018427387903) : -21267647932558653966460912964485513216 < x * y ∧ x * y < 21267647932558653966460912964485513216 := by
  have a : (x * y).natAbs ≤ 4611686018427387903 * 4611686018427387903 := by rw [Int.natAbs_mul]; exact Nat.mul_le_mul (by omega) (by omega)
  omega

set_option maxHeartbeats 1000000 in
theorem ratio_any (b off : Nat) (f : Bool) (x y z : Int) (w : World) (hc : w.cell? ⟨b, off, none⟩ = some (.bool f)) (hf : w.frozen? ⟨b, off, none⟩ = false) :
    Calls Tryz.prog 85 #[.pointer (some ⟨b, off, none⟩), .int .i64 x, .int .i64 y, .int .i64 z] w fun e w' => e = .returned (.int .i64 ((ratio x y z).getD 0)) ∧ Below w.heap.size (mark ⟨b, off, none⟩ (ratio x y z) w) w' := by
  by_cases hz : z = 0
  · have hr : ratio x y z = none := by simp only [ratio, hz, if_true]
    rw [hr]
    have C2 : Hid _ := none_any b off f _ hc hf
    have hz' : (z == 0) = true := by simp [hz]
    clear hc hf hz hr
    go_enter Tryz.func85, Tryz.ntmps85
    go_wp2_with (first | (go_at_call 124; refine (Calls.mono C2.out ?_); rintro e w' ⟨rfl, rfl⟩))
    go_ret
    exact ⟨rfl, Below.refl _ _⟩
  have hz' : (z == 0) = false := by simp [hz]
  have C1 := great3 x y z w
  have hb := new_after w (.cells #[.int .i64 x, .int .i64 y, .int .i64 z] 3)
  have hc' := cell_after hb hc
  have hf' := frozen_after hb hc hf
  cases hg : (great x || (great y || great z))
  · have hg3 : great x = false ∧ great y = false ∧ great z = false := by simpa using hg
    have hx : -4611686018427387903 ≤ x ∧ x ≤ 4611686018427387903 := (not_great x).1 hg3.1
    have hy : -4611686018427387903 ≤ y ∧ y ≤ 4611686018427387903 := (not_great y).1 hg3.2.1
    have hzz : -4611686018427387903 ≤ z ∧ z ≤ 4611686018427387903 := (not_great z).1 hg3.2.2
    rw [hg] at C1
    have K1 : Hid _ := C1
    have HB : Hid _ := hb
    have HC : Hid _ := hc
    have HF : Hid _ := hf
    have hp := small_prod hx hy
    have C3 : Hid _ := fun w => product_any x y w (by omega) (by omega) (by omega) (by omega)
    obtain ⟨Z, hZ⟩ : ∃ Z, (0 ≤ x * y ∧ Z = x * y) ∨ (x * y < 0 ∧ Z = -(x * y)) := by
      by_cases h : 0 ≤ x * y
      · exact ⟨_, Or.inl ⟨h, rfl⟩⟩
      · exact ⟨_, Or.inr ⟨by omega, rfl⟩⟩
    obtain ⟨d, hd⟩ : ∃ d, (0 < z ∧ d = z) ∨ (z < 0 ∧ d = -z) := by
      by_cases h : 0 < z
      · exact ⟨_, Or.inl ⟨h, rfl⟩⟩
      · exact ⟨_, Or.inr ⟨by omega, rfl⟩⟩
    by_cases hfit : Z / d ≤ 4611686018427387903
    · have hr : ratio x y z = Fx.told (fl (x * y) z) := by simp only [ratio, hg, hz]; rfl
      rw [hr]
      have K4 : Hid _ := fun w => by_any (x * y) z Z d w (by omega) (by omega) hZ hd (by omega) hfit
      clear C1 hb hc hf hc' hf' hg hr hfit hp hZ hd hg3 hz
      go_enter Tryz.func85, Tryz.ntmps85
      go_wp2_with (first
        | (go_at_call 123; refine (Calls.mono K1.out ?_); rintro e w' ⟨rfl, rfl⟩)
        | (go_at_call 126; refine (Calls.mono (C3.out _) ?_); rintro e w1 ⟨rfl, hb1⟩; have B1 : Hid _ := below_step HB.out hb1)
        | (go_at_call 127; refine (Calls.mono (K4.out _) ?_); rintro e w2 ⟨rfl, hb2⟩; have B2 : Hid _ := below_step B1.out hb2)
        | (go_at_call 125; refine (Calls.mono (tell_any b off f _ _ (cell_after B2.out HC.out) (frozen_after B2.out HC.out HF.out)) ?_); rintro e w3 ⟨rfl, hb3⟩))
      go_ret
      exact ⟨rfl, mark_after B2.out hb3⟩
    · have hr : ratio x y z = none := by
        have hgr : great (fl (x * y) z) = true := by
          rw [great_iff]
          have hd0 : 0 < d := by omega
          have hn := neg_div (T := Z) hd0
          unfold fl
          rcases hZ with ⟨a, rfl⟩ | ⟨a, e⟩ <;> rcases hd with ⟨g, rfl⟩ | ⟨g, rfl⟩
          · rw [if_neg (by omega)]; omega
          · rw [if_pos (by omega), hn]; split <;> omega
          · rw [if_neg (by omega), show x * y = -Z by omega, hn]; split <;> omega
          · rw [if_pos (by omega), ← e]; omega
        simp only [ratio, hz, hg, Fx.told, hgr]; rfl
      rw [hr]
      have K4 : Hid _ := fun w => by_none (x * y) z Z d w (by omega) (by omega) hZ hd (by omega) (by omega)
      clear C1 hb hc hf hc' hf' hg hr hfit hp hZ hd hg3 hz
      go_enter Tryz.func85, Tryz.ntmps85
      go_wp2_with (first
        | (go_at_call 123; refine (Calls.mono K1.out ?_); rintro e w' ⟨rfl, rfl⟩)
        | (go_at_call 126; refine (Calls.mono (C3.out _) ?_); rintro e w1 ⟨rfl, hb1⟩; have B1 : Hid _ := below_step HB.out hb1)
        | (go_at_call 127; refine (Calls.mono (K4.out _) ?_); rintro e w2 ⟨rfl, hb2⟩; have B2 : Hid _ := below_step B1.out hb2)
        | (go_at_call 125; refine (Calls.mono (tell_any_none b off f _ _ (cell_after B2.out HC.out) (frozen_after B2.out HC.out HF.out)) ?_); rintro e w3 ⟨rfl, hb3⟩))
      go_ret
      exact ⟨rfl, mark_after B2.out hb3⟩
  · have hr : ratio x y z = none := by simp only [ratio, hz, hg, if_true, if_false]
    rw [hr]
    rw [hg] at C1
    have C2 : Hid _ := none_any b off f _ hc' hf'
    have K1 : Hid _ := C1
    have HB : Hid _ := set_after (p := ⟨b, off, none⟩) (v := .bool true) hb
    clear C1 hb hc hf hc' hf' hg hr hz
    go_enter Tryz.func85, Tryz.ntmps85
    go_wp2_with (first | (go_at_call 123; refine (Calls.mono K1.out ?_); rintro e w' ⟨rfl, rfl⟩) | (go_at_call 124; refine (Calls.mono C2.out ?_); rintro e w' ⟨rfl, rfl⟩))
    go_ret
    exact ⟨rfl, HB.out⟩

set_option maxHeartbeats 1000000 in
theorem sub_any (b off : Nat) (f : Bool) (x y : Int) (w : World) (hc : w.cell? ⟨b, off, none⟩ = some (.bool f)) (hf : w.frozen? ⟨b, off, none⟩ = false) :
    Calls Tryz.prog 86 #[.pointer (some ⟨b, off, none⟩), .int .i64 x, .int .i64 y] w fun e w' => e = .returned (.int .i64 ((sub x y).getD 0)) ∧ Below w.heap.size (mark ⟨b, off, none⟩ (sub x y) w) w' := by
  have C1 := great2 x y w
  have hb := new_after w (.cells #[.int .i64 x, .int .i64 y] 3)
  have hc' := cell_after hb hc
  have hf' := frozen_after hb hc hf
  cases hg : (great x || great y)
  · have hsub : sub x y = Fx.told (x - y) := by simp [sub, hg]
    rw [hsub]
    rw [hg] at C1
    have hx : -4611686018427387903 ≤ x ∧ x ≤ 4611686018427387903 := (not_great x).1 (by simp at hg; exact hg.1)
    have hy : -4611686018427387903 ≤ y ∧ y ≤ 4611686018427387903 := (not_great y).1 (by simp at hg; exact hg.2)
    have C2 : Hid _ := tell_any b off f (x - y) _ hc' hf'
    have K1 : Hid _ := C1
    have HB : Hid _ := hb
    clear C1 hb hc hf hc' hf' hg hsub
    go_enter Tryz.func86, Tryz.ntmps86
    go_wp2_with (first | (go_at_call 123; refine (Calls.mono K1.out ?_); rintro e w' ⟨rfl, rfl⟩) | (go_at_call 125; refine (Calls.mono C2.out ?_); rintro e w' ⟨rfl, hb2⟩))
    go_ret
    exact ⟨rfl, mark_after HB.out hb2⟩
  · have hsub : sub x y = none := by simp only [sub, hg, if_true]
    rw [hsub]
    rw [hg] at C1
    have C2 : Hid _ := none_any b off f _ hc' hf'
    have K1 : Hid _ := C1
    have HB : Hid _ := set_after (p := ⟨b, off, none⟩) (v := .bool true) hb
    clear C1 hb hc hf hc' hf' hg hsub
    go_enter Tryz.func86, Tryz.ntmps86
    go_wp2_with (first | (go_at_call 123; refine (Calls.mono K1.out ?_); rintro e w' ⟨rfl, rfl⟩) | (go_at_call 124; refine (Calls.mono C2.out ?_); rintro e w' ⟨rfl, rfl⟩))
    go_ret
    exact ⟨rfl, HB.out⟩
end Go.Proofs.YtbhdfjoagajipaaGreat
namespace Go.Proofs.YtbhdfjoagajipaaGreat
open Go.RowKit Fx

/-- From a flag f, a call that tells o: the number v, the flag g. -/
def Step (f : Bool) (o : Option Int) (v : Int) (g : Bool) : Prop := v = o.getD 0 ∧ g = (f || o.isNone)

/-- From W to W' the flag at p has become g; no other block that was there has turned. -/
structure After (p : Addr) (g : Bool) (W W' : World) : Prop where
  cell : W'.cell? p = some (.bool g)
  frozen : W'.frozen? p = false
  size : W.heap.size ≤ W'.heap.size
  other : ∀ q : Addr, q.block < W.heap.size → q.block ≠ p.block → W'.cell? q = W.cell? q ∧ W'.frozen? q = W.frozen? q
  below : ∀ (B : Nat) (w : World), Below B w W → B ≤ p.block → B ≤ W.heap.size → Below B w W'
  kept : W'.os = W.os ∧ W'.tape = W.tape ∧ W'.output = W.output ∧ ∀ k, k < W.heap.size → k ≠ p.block → W'.heap[k]? = W.heap[k]?
  beside : p.block < W.heap.size → ∀ o, o ≠ p.off → W'.cell? ⟨p.block, o, none⟩ = W.cell? ⟨p.block, o, none⟩ ∧ W'.frozen? ⟨p.block, o, none⟩ = W.frozen? ⟨p.block, o, none⟩

theorem After.cellOf {p q : Addr} {g : Bool} {W W' : World} (h : After p g W W') {v : Value} (hq : W.cell? q = some v) (hne : q.block ≠ p.block) : W'.cell? q = some v := (h.other q (World.block_lt_of_cell? _ _ hq) hne).1.trans hq
theorem After.frozenOf {p q : Addr} {g : Bool} {W W' : World} (h : After p g W W') {v : Value} (hq : W.cell? q = some v) (hf : W.frozen? q = false) (hne : q.block ≠ p.block) : W'.frozen? q = false := (h.other q (World.block_lt_of_cell? _ _ hq) hne).2.trans hf

theorem After.on {w W W' : World} {p : Addr} {g : Bool} (h : After p g W W') (hb : Below w.heap.size w W) (hp : w.heap.size ≤ p.block) : Below w.heap.size w W' := h.below _ _ hb hp hb.size

theorem after_of {b off : Nat} {f : Bool} {o : Option Int} {W W' : World} (hb : Below W.heap.size (mark ⟨b, off, none⟩ o W) W') (hc : W.cell? ⟨b, off, none⟩ = some (.bool f)) (hf : W.frozen? ⟨b, off, none⟩ = false) :
    After ⟨b, off, none⟩ (f || o.isNone) W W' := by
  have hlt := World.block_lt_of_cell? _ _ hc
  cases o with
  | some n =>
    have hb : Below W.heap.size W W' := hb
    refine ⟨by rw [hb.cell hlt, hc]; simp, by rw [hb.frozen hlt, hf], hb.size, fun q hq _ => ⟨hb.cell hq, hb.frozen hq⟩, fun B w h _ hB => h.trans (hb.mono hB), ⟨hb.os, hb.tape, hb.output, fun k hk _ => hb.block k hk⟩, fun hp o _ => ⟨hb.cell hp, hb.frozen hp⟩⟩
  | none =>
    have hb : Below W.heap.size (W.setCell ⟨b, off, none⟩ (.bool true)) W' := hb
    have hs := hb.size
    simp [World.setCell] at hs
    refine ⟨?_, ?_, by simpa using hs, fun q hq hne => ⟨?_, ?_⟩, fun B w h hp hB => (h.setCell hp _).trans (hb.mono hB), ⟨hb.os, hb.tape, hb.output, fun k hk hne => (hb.block k hk).trans (Below.heap_setCell _ _ _ _ hne)⟩, fun hp o ho => ⟨?_, ?_⟩⟩
    · rw [hb.cell hlt]; simp [go_sem, hc]
    · rw [hb.frozen hlt]; simp [go_sem, hf]
    · rw [hb.cell hq]; exact World.cell?_of_block (w := W) (Below.heap_setCell _ _ _ _ hne)
    · rw [hb.frozen hq]; exact World.frozen?_of_block (w := W) (Below.heap_setCell _ _ _ _ hne)
    · exact (hb.cell (p := ⟨b, o, none⟩) hlt).trans (World.cell?_setCell_other _ _ _ _ (fun e => ho (Addr.mk.inj e).2.1.symm))
    · exact (hb.frozen (p := ⟨b, o, none⟩) hlt).trans (by simp [go_sem])

end Go.Proofs.YtbhdfjoagajipaaGreat
namespace Go.Proofs.YtbhdfjoagajipaaGreat
open Go.RowKit Go.Shelf
set_option linter.unusedVariables false

def Pt.fits (p : Pt) : Prop := (-9223372036854775808 ≤ p.x ∧ p.x ≤ 9223372036854775807) ∧ (-9223372036854775808 ≤ p.y ∧ p.y ≤ 9223372036854775807) ∧ (-9223372036854775808 ≤ p.z ∧ p.z ≤ 9223372036854775807)
/-- A shape that may be. -/
structure Good (s : Sh) : Prop where
  k : 1 ≤ s.kind ∧ s.kind ≤ 4
  r : 1 ≤ s.radius ∧ s.radius ≤ 16384
  hx : 1 ≤ s.half.x ∧ s.half.x ≤ 65536
  hy : 1 ≤ s.half.y ∧ s.half.y ≤ 65536
  hz : 1 ≤ s.half.z ∧ s.half.z ≤ 65536
  none : s.kind ≤ 3 → s.pts = []
  ok : checkP s = 0
theorem exec_append {P : Program} {w : World} {a : Act} (s x : Operand) (t ty : TypeId)
    (base : Nat) (e : TypeId) (i : TypeInfo) (z : Value) (size bytes : Nat) (ht : P.underlying t = some (.slice e)) (hi : P.info? e = some i) (hz : i.zero = some z)
    (hsize : i.size = size) (hby : i.bytes = bytes) (hzs : z.cells.size = size) (hsz : 0 < size)
    (v : Value) (n : Nat) (xs : List Value) (hs : a.eval s = v) (hown : w.ownsRow base e size v n xs)
    (ad : Addr) (m c : Nat) (news : List Value) (hx : a.eval x = .slice (some ad) m c) (hl : news.length = m * size) (hnews : ∀ j u, news[j]? = some u → w.cell? (ad.add j) = some u) (h1 : ∀ u ∈ news, u.oneCell' = true)
    (h63 : n + m ≤ maxLen) (hbytes : (n + m) * bytes ≤ 140737488355328) (hbase : base ≤ w.heap.size) :
    ∃ v' w', (∀ o : Oper, o.op = .call { callee := .builtin .append, args := #[s, x], argTypes := #[t, t] } → o.type = ty → (execOp a.eval o).run P w = .ok (.value v') w') ∧ w'.ownsRow base e size v' (n + m) (xs ++ news) ∧ Grew w w' v v' := by
  obtain ⟨v', w', hr, h2, h3, h4, h5⟩ := run_append_own_at (P := P) w base t ty e i z size bytes ht hi hz hsize hby hzs hsz v n xs hown ad m c news hl hnews h1 h63 hbytes hbase
  refine ⟨v', w', ?_, h2, h3, ?_⟩
  · intro o ho hty
    unfold execOp
    simp only [ho, hty, resolve, invoke, builtin, Sem.run_bind, Sem.run_pure, Result.andThen_ok, List.map_toArray, List.map_cons, List.map_nil, hs, hx, hr]
  · rcases h5 with e | e
    · exact Or.inl e
    · exact Or.inr ⟨_, e, Nat.le_refl _⟩

section
variable {p q s : Nat} {W7 : World} {B : Nat} {u : Value} {b3 k n : Nat} {xs news : List Value} {γ : Nat → Value} {L : Nat → Bool} {w : World}
end

end Go.Proofs.YtbhdfjoagajipaaGreat
