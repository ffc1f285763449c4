/- The reference's numbers by digits (tumblerref01): quotients, down, bit by bit. -/
import Derived.Test.YtioailboehpcaaaRef4
namespace Go.Proofs.Ytioailboehpcaaa
open Go.RowKit Ref

/-- The digits from number k on, as a number. -/
def top (d : Nat → Int) (k : Nat) : Int := val (fun j => d (k + j)) (8 - k)
theorem top_all (d : Nat → Int) : top d 8 = 0 := rfl
theorem top_none (d : Nat → Int) : top d 0 = val d 8 := val_ext 8 fun j _ => by simp
theorem top_step (d : Nat → Int) (k : Nat) (hk : k < 8) : top d k = top d (k + 1) * 16777216 + d k := by
  unfold top
  have h := val_split (fun j => d (k + j)) 1 (8 - (k + 1))
  rw [show 1 + (8 - (k + 1)) = 8 - k by omega] at h
  rw [h]
  have e : val (fun j => d (k + (1 + j))) (8 - (k + 1)) = val (fun j => d (k + 1 + j)) (8 - (k + 1)) := val_ext _ fun j _ => by rw [← Nat.add_assoc]
  rw [e]
  have e1 : val (fun j => d (k + j)) 1 = d k := by simp [val]
  rw [e1, Int.pow_succ, Int.pow_zero]
  generalize val (fun j => d (k + 1 + j)) (8 - (k + 1)) = R
  omega
theorem top_le {d : Nat → Int} (hd : Digs d) (k : Nat) (hk : k ≤ 8) : top d k ≤ val d 8 := by
  have h := val_split d k (8 - k)
  rw [show k + (8 - k) = 8 by omega] at h
  have h0 : 0 ≤ val d k := val_nonneg k fun j hj => (hd j (by omega)).1
  have h1 : 0 ≤ top d k := val_nonneg _ fun j hj => (hd (k + j) (by omega)).1
  have h2 := pos k
  have h3 : 1 * top d k ≤ 16777216 ^ k * top d k := Int.mul_le_mul_of_nonneg_right (by omega) h1
  unfold top at *
  omega
theorem top_nonneg {d : Nat → Int} (hd : Digs d) (k : Nat) (hk : k ≤ 8) : 0 ≤ top d k := val_nonneg _ fun j hj => (hd (k + j) (by omega)).1

/-- The bit that is next, m bits being left. -/
def bitOf : Nat → Int
  | 0 => 0
  | m + 1 => 2 ^ m
theorem bit_half (m : Nat) : (2 : Int) ^ m / 2 = bitOf m := by
  cases m with
  | zero => rfl
  | succ m => simp only [bitOf, Int.pow_succ]; omega
theorem bit_pos (m : Nat) : (0 : Int) < 2 ^ m := Int.pow_pos (by omega)
theorem bit_le {m : Nat} (h : m < 24) : (2 : Int) ^ m ≤ 8388608 := by
  have h1 : (2 : Int) ^ 23 = 2 ^ m * 2 ^ (23 - m) := by rw [← Int.pow_add]; congr 1; omega
  have h2 := bit_pos (23 - m)
  have h3 := bit_pos m
  have h4 : (2 : Int) ^ m * 1 ≤ 2 ^ m * 2 ^ (23 - m) := Int.mul_le_mul_of_nonneg_left (by omega) (by omega)
  have h5 : (2 : Int) ^ 23 = 8388608 := by decide
  omega

theorem down_bit {P x N q r C : Int} {m : Nat} (hm : m < 24) (hN : N = P * 2 ^ (24 - (m + 1)) + x / 2 ^ (m + 1)) (h : q * C + r = N) : 2 * q * C + (2 * r + x / 2 ^ m % 2) = P * 2 ^ (24 - m) + x / 2 ^ m := by
  have e : x / 2 ^ (m + 1) = x / 2 ^ m / 2 := by rw [Int.pow_succ, Int.ediv_ediv_of_nonneg (Int.le_of_lt (bit_pos m))]
  have e2 : (2 : Int) ^ (24 - m) = 2 ^ (24 - (m + 1)) * 2 := by rw [← Int.pow_succ]; congr 1; omega
  rw [e] at hN
  rw [e2]
  generalize x / 2 ^ m = y at *
  generalize (2 : Int) ^ (24 - (m + 1)) = Z at *
  have h2 : y / 2 * 2 + y % 2 = y := by omega
  subst hN
  grind

theorem down_early {P x N q r C V : Int} {m : Nat} (hm : m < 24) (hP : 0 ≤ P) (hx : 0 ≤ x) (hr : 0 ≤ r) (hC : 0 < C) (hN : N = P * 2 ^ (24 - (m + 1)) + x / 2 ^ (m + 1)) (h : q * C + r = N) (hq : 2305843009213693951 < q) (hV : P * 16777216 + x ≤ V) :
    4611686018427387904 ≤ V / C := by
  apply (Int.le_ediv_iff_mul_le hC).2
  have e1 : (16777216 : Int) = 2 ^ (24 - (m + 1)) * 2 ^ (m + 1) := by rw [← Int.pow_add, show 24 - (m + 1) + (m + 1) = 24 by omega]; decide
  have h1 := bit_pos (24 - (m + 1))
  have h2 := bit_pos m
  have h3 : (2 : Int) ^ (m + 1) = 2 ^ m * 2 := Int.pow_succ ..
  have h4 : 0 ≤ P * 2 ^ (24 - (m + 1)) := Int.mul_nonneg hP (by omega)
  have h5 : P * 2 ^ (24 - (m + 1)) * 2 ≤ P * 2 ^ (24 - (m + 1)) * 2 ^ (m + 1) := Int.mul_le_mul_of_nonneg_left (by omega) h4
  have h6 : P * 16777216 = P * 2 ^ (24 - (m + 1)) * 2 ^ (m + 1) := by rw [Int.mul_assoc, ← e1]
  have h7 : x / 2 ^ (m + 1) * 2 ≤ x := by
    have a := Int.emod_add_mul_ediv x (2 ^ (m + 1))
    have b := Int.emod_nonneg x (by omega : (2 : Int) ^ (m + 1) ≠ 0)
    have c : 0 ≤ x / 2 ^ (m + 1) := Int.ediv_nonneg hx (by omega)
    have d : 2 * (x / 2 ^ (m + 1)) ≤ 2 ^ (m + 1) * (x / 2 ^ (m + 1)) := Int.mul_le_mul_of_nonneg_right (by omega) c
    omega
  have h8 : 2305843009213693952 * C ≤ q * C := Int.mul_le_mul_of_nonneg_right (by omega) (by omega)
  omega

/-- What the quotient is, down, by the sizes' quotient and rest. -/
theorem down_end {n : Bool} {d : Nat → Int} {q r C : Int} (hC : 0 < C) (hr0 : 0 ≤ r) (hr : r < C) (h : q * C + r = val d 8) : sv n d / C = if n then (if r = 0 then -q else -(q + 1)) else q := by
  have hd := Fx.div_of (n := val d 8) (q := q) hC (by omega) (by rw [Int.add_mul]; omega)
  unfold sv
  cases n
  · simp [hd.1]
  · simp only [if_true]
    rw [Fx.neg_div hC, hd.1, hd.2]
    have : (val d 8 - q * C = 0) ↔ r = 0 := by omega
    simp [this]
theorem down_great {n : Bool} {d : Nat → Int} {C : Int} (hC : 0 < C) (h : 4611686018427387904 ≤ val d 8 / C) : Fx.great (sv n d / C) = true := by
  rw [Fx.great_iff]
  unfold sv
  cases n
  · simp; omega
  · simp only [if_true]
    rw [Fx.neg_div hC]
    split <;> omega

set_option maxHeartbeats 2000000 in
theorem down_pos (s : Bool) (a : Nat → Int) (c : Int) (w : World) (ha : Digs a) (hc : 0 < c) (hc2 : c ≤ 4611686018427387903) :
    Calls Try.prog 61 #[wv s a, .int .i64 c] w fun e w' => ∃ n ok, e = .returned (.tuple #[.int .i64 n, .bool ok]) ∧ Hid (ok = !Fx.great (sv s a / c) ∧ n = if ok then sv s a / c else 0) ∧ Hid (Below w.heap.size w w') := by
  obtain ⟨C, hC⟩ : ∃ C, C = c := ⟨_, rfl⟩
  have hC0 : 0 < C := by omega
  have hC1 : C ≤ 4611686018427387903 := by omega
  rw [← hC]
  have HA : Hid _ := ha
  have HG : Hid (4611686018427387904 ≤ val a 8 / C → Fx.great (sv s a / C) = true) := down_great hC0
  have HE : Hid (∀ q r, 0 ≤ r → r < C → q * C + r = val a 8 → sv s a / C = if s then (if r = 0 then -q else -(q + 1)) else q) := fun q r h1 h2 h3 => down_end hC0 h1 h2 h3
  clear ha
  go_enter Try.func61, Try.ntmps61
  go_wp2
  rw [← hC]
  clear hC
  go_loopw [7, 8, 9] (fun qq rr i wr => ∃ (k : Nat) (q r : Int), k ≤ 8 ∧ i = .int .i64 ((k : Int) - 1) ∧ qq = .int .i64 q ∧ rr = .int .i64 r ∧ 0 ≤ q ∧ q ≤ 4611686018427387903 ∧ 0 ≤ r ∧ r < C ∧ Hid (q * C + r = top a k) ∧ Hid (Lies wr w.heap.size s a) ∧ Hid (Below w.heap.size w wr)) (fun _ _ i _ => (intOf i + 1).toNat)
  case atStart => exact ⟨8, 0, 0, Nat.le_refl _, rfl, rfl, rfl, by omega, by omega, by omega, hC0, by show _ = _; rw [top_all]; simp, lies_new w s a 84, new_after w _⟩
  case round =>
    obtain ⟨k, q, r, hk, rfl, rfl, rfl, hq0, hq1, hr0, hr1, HI, HL, HB⟩ := hrel
    match k, hk, HI with
    | 0, _, HI =>
      have HV : Hid _ := HE.out q r hr0 hr1 (by rw [← top_none]; exact HI.out)
      clear HE HG HI HA
      cases s
      · skip
        go_wp2
        go_ret2
        exact ⟨q, true, rfl, ⟨by rw [HV.out, if_neg (by simp), (Fx.not_great _).2 ⟨by omega, hq1⟩]; rfl, by rw [HV.out]; simp⟩, HB.out⟩
      · skip
        rcases Int.lt_trichotomy r 0 with hr | hr | hr
        · omega
        · subst hr
          rw [if_pos (by simp), if_pos rfl] at HV
          go_wp2
          go_ret2
          exact ⟨-q, true, rfl, ⟨by rw [HV.out, (Fx.not_great _).2 ⟨by omega, by omega⟩]; rfl, by rw [HV.out]; simp⟩, HB.out⟩
        · rw [if_pos (by simp), if_neg (by omega)] at HV
          by_cases hm : q = 4611686018427387903
          · subst hm
            go_wp2
            go_ret2
            exact ⟨0, false, rfl, ⟨by rw [HV.out]; decide, by simp⟩, HB.out⟩
          · go_wp2
            go_ret2
            exact ⟨-(q + 1), true, rfl, ⟨by rw [HV.out, (Fx.not_great _).2 ⟨by omega, by omega⟩]; rfl, by rw [HV.out]; simp⟩, HB.out⟩
    | k + 1, hk, HI =>
      have e : ((k + 1 : Nat) : Int) - 1 = (k : Int) := by omega
      rw [e]
      have i0 : (0 : Int) ≤ (k : Int) := by omega
      have i1 : (k : Int) < 8 := by omega
      have c0 := HL.out.dig k (by omega)
      have b0 := HA.out k (by omega)
      have HT : Hid _ := top_step a k (by omega)
      have HP : Hid _ := top_nonneg HA.out (k + 1) (by omega)
      have HW : Hid _ := top_le HA.out k (by omega)
      obtain ⟨x, hx⟩ : ∃ x, x = a k := ⟨_, rfl⟩
      obtain ⟨P, hP⟩ : ∃ P, P = top a (k + 1) := ⟨_, rfl⟩
      rw [← hx] at c0 b0 HT
      rw [← hP] at HT HP HI
      have HX : Hid _ := hx
      clear hx hP e
      by_cases hskip : x = 0 ∧ q = 0 ∧ r = 0
      · obtain ⟨rfl, rfl, rfl⟩ := hskip
        have HM : Hid (0 * C + 0 = top a k) := by show _ = _; rw [HT.out, ← HI.out]; omega
        go_wp2
        go_roundw
        case rel => exact ⟨k, 0, 0, by omega, by go_num, rfl, rfl, by omega, by omega, by omega, hC0, HM.out, HL.out, HB.out⟩
        case measure => show (((k : Int) - 1) + 1).toNat < ((k : Int) + 1).toNat; omega
      · have hor : x ≠ 0 ∨ (x = 0 ∧ q ≠ 0) ∨ (x = 0 ∧ q = 0 ∧ r ≠ 0) := by omega
        clear hskip
        rcases hor with g | ⟨g, g'⟩ | ⟨g, g', g''⟩
        all_goals go_wp2
        all_goals try clear g''
        all_goals try clear g'
        all_goals clear g
        all_goals (
          go_loopw [7, 8, 10] (fun qq rr bb wr => ∃ (m : Nat) (q r : Int), m ≤ 24 ∧ bb = .int .i64 (bitOf m) ∧ qq = .int .i64 q ∧ rr = .int .i64 r ∧ 0 ≤ q ∧ q ≤ 4611686018427387903 ∧ 0 ≤ r ∧ r < C ∧ Hid (q * C + r = P * 2 ^ (24 - m) + x / 2 ^ m) ∧ Hid (Lies wr w.heap.size s a) ∧ Hid (Below w.heap.size w wr)) (fun _ _ bb _ => (intOf bb).toNat)
          case atStart => exact ⟨24, q, r, Nat.le_refl _, by simp [bitOf], rfl, rfl, hq0, hq1, hr0, hr1, by show _ = _; rw [HI.out, Int.ediv_eq_zero_of_lt (by omega) (by simpa using b0.2)]; simp, HL.out, HB.out⟩
          case round =>
            clear HI HL HB c0 hq0 hq1 hr0 hr1
            obtain ⟨m, q, r, hm, rfl, rfl, rfl, hq0, hq1, hr0, hr1, HI, HL, HB⟩ := hrel
            match m, hm, HI with
            | 0, _, HI =>
              have HM : Hid (q * C + r = top a k) := by show _ = _; rw [HI.out, HT.out]; simp
              have hb0 : bitOf 0 = 0 := rfl
              rw [hb0]
              go_wp2
              go_roundw
              case rel => exact ⟨k, q, r, by omega, by go_num, rfl, rfl, hq0, hq1, hr0, hr1, HM.out, HL.out, HB.out⟩
              case measure => show (((k : Int) - 1) + 1).toNat < ((k : Int) + 1).toNat; omega
            | m + 1, hm, HI =>
              have hb0 : bitOf (m + 1) = 2 ^ m := rfl
              rw [hb0]
              have c0 := HL.out.dig k (by omega)
              rw [← HX.out] at c0
              have HN : Hid (∀ q' r' : Int, q' * C + r' = 2 * q * C + (2 * r + x / 2 ^ m % 2) → q' * C + r' = P * 2 ^ (24 - m) + x / 2 ^ m) := fun q' r' h => h.trans (down_bit (by omega : m < 24) rfl HI.out)
              have HY : Hid (2305843009213693951 < q → 4611686018427387904 ≤ val a 8 / C) := fun h => down_early (by omega : m < 24) HP.out b0.1 hr0 hC0 rfl HI.out h (by rw [← HT.out]; exact HW.out)
              have HH : Hid _ := bit_half m
              have hb1 := bit_pos m
              have hb2 := bit_le (by omega : m < 24)
              obtain ⟨bt, hbt⟩ : ∃ b, b = (2 : Int) ^ m := ⟨_, rfl⟩
              rw [← hbt] at HH hb1 hb2
              rw [← hbt]
              have y0 : 0 ≤ x / bt := Int.ediv_nonneg b0.1 (by omega)
              have y1 : x / bt ≤ x := Int.ediv_le_self _ b0.1
              obtain ⟨y, hy⟩ : ∃ y, y = x / bt := ⟨_, rfl⟩
              have HYY : Hid (y = x / 2 ^ m) := by show _ = _; rw [← hbt]; exact hy
              rw [← hy] at y0 y1
              clear hbt hb0 HI
              have hbit : y % 2 = 1 ∨ y % 2 = 0 := by omega
              rcases hbit with hbit | hbit
              · skip
                by_cases hq : 2305843009213693951 < q
                · have HZ : Hid _ := HG.out (HY.out hq)
                  go_wp2
                  go_ret2
                  exact ⟨0, false, rfl, ⟨by rw [HZ.out]; rfl, rfl⟩, HB.out⟩
                by_cases hr : C ≤ 2 * r + 1
                · skip
                  go_wp2
                  go_roundw
                  case rel => exact ⟨m, 2 * q + 1, 2 * r + 1 - C, by omega, by rw [HH.out], rfl, rfl, by omega, by omega, by omega, by omega, HN.out _ _ (by rw [← HYY.out, hbit]; rw [Int.add_mul]; omega), HL.out, HB.out⟩
                  case measure => show (bt / 2).toNat < bt.toNat; omega
                · skip
                  go_wp2
                  go_roundw
                  case rel => exact ⟨m, 2 * q, 2 * r + 1, by omega, by rw [HH.out], rfl, rfl, by omega, by omega, by omega, by omega, HN.out _ _ (by rw [← HYY.out, hbit]), HL.out, HB.out⟩
                  case measure => show (bt / 2).toNat < bt.toNat; omega
              · skip
                by_cases hq : 2305843009213693951 < q
                · have HZ : Hid _ := HG.out (HY.out hq)
                  go_wp2
                  go_ret2
                  exact ⟨0, false, rfl, ⟨by rw [HZ.out]; rfl, rfl⟩, HB.out⟩
                by_cases hr : C ≤ 2 * r
                · skip
                  go_wp2
                  go_roundw
                  case rel => exact ⟨m, 2 * q + 1, 2 * r - C, by omega, by rw [HH.out], rfl, rfl, by omega, by omega, by omega, by omega, HN.out _ _ (by rw [← HYY.out, hbit]; rw [Int.add_mul]; omega), HL.out, HB.out⟩
                  case measure => show (bt / 2).toNat < bt.toNat; omega
                · skip
                  go_wp2
                  go_roundw
                  case rel => exact ⟨m, 2 * q, 2 * r, by omega, by rw [HH.out], rfl, rfl, by omega, by omega, by omega, by omega, HN.out _ _ (by rw [← HYY.out, hbit]; omega), HL.out, HB.out⟩
                  case measure => show (bt / 2).toNat < bt.toNat; omega)

set_option maxHeartbeats 2000000 in
theorem down_neg (s : Bool) (a : Nat → Int) (c : Int) (w : World) (ha : Digs a) (hc : c < 0) (hc2 : -4611686018427387903 ≤ c) :
    Calls Try.prog 61 #[wv s a, .int .i64 c] w fun e w' => ∃ n ok, e = .returned (.tuple #[.int .i64 n, .bool ok]) ∧ Hid (ok = !Fx.great (sv (!s) a / (-c)) ∧ n = if ok then sv (!s) a / (-c) else 0) ∧ Hid (Below w.heap.size w w') := by
  obtain ⟨C, hC⟩ : ∃ C, C = (-c) := ⟨_, rfl⟩
  have hC0 : 0 < C := by omega
  have hC1 : C ≤ 4611686018427387903 := by omega
  rw [← hC]
  have HA : Hid _ := ha
  have HG : Hid (4611686018427387904 ≤ val a 8 / C → Fx.great (sv (!s) a / C) = true) := down_great hC0
  have HE : Hid (∀ q r, 0 ≤ r → r < C → q * C + r = val a 8 → sv (!s) a / C = if (!s) then (if r = 0 then -q else -(q + 1)) else q) := fun q r h1 h2 h3 => down_end hC0 h1 h2 h3
  clear ha
  go_enter Try.func61, Try.ntmps61
  go_wp2
  rw [← hC]
  clear hC
  go_loopw [7, 8, 9] (fun qq rr i wr => ∃ (k : Nat) (q r : Int), k ≤ 8 ∧ i = .int .i64 ((k : Int) - 1) ∧ qq = .int .i64 q ∧ rr = .int .i64 r ∧ 0 ≤ q ∧ q ≤ 4611686018427387903 ∧ 0 ≤ r ∧ r < C ∧ Hid (q * C + r = top a k) ∧ Hid (Lies wr w.heap.size s a) ∧ Hid (Below w.heap.size w wr)) (fun _ _ i _ => (intOf i + 1).toNat)
  case atStart => exact ⟨8, 0, 0, Nat.le_refl _, rfl, rfl, rfl, by omega, by omega, by omega, hC0, by show _ = _; rw [top_all]; simp, lies_new w s a 84, new_after w _⟩
  case round =>
    obtain ⟨k, q, r, hk, rfl, rfl, rfl, hq0, hq1, hr0, hr1, HI, HL, HB⟩ := hrel
    match k, hk, HI with
    | 0, _, HI =>
      have HV : Hid _ := HE.out q r hr0 hr1 (by rw [← top_none]; exact HI.out)
      clear HE HG HI HA
      cases s
      · skip
        rcases Int.lt_trichotomy r 0 with hr | hr | hr
        · omega
        · subst hr
          rw [if_pos (by simp), if_pos rfl] at HV
          go_wp2
          go_ret2
          exact ⟨-q, true, rfl, ⟨by rw [HV.out, (Fx.not_great _).2 ⟨by omega, by omega⟩]; rfl, by rw [HV.out]; simp⟩, HB.out⟩
        · rw [if_pos (by simp), if_neg (by omega)] at HV
          by_cases hm : q = 4611686018427387903
          · subst hm
            go_wp2
            go_ret2
            exact ⟨0, false, rfl, ⟨by rw [HV.out]; decide, by simp⟩, HB.out⟩
          · go_wp2
            go_ret2
            exact ⟨-(q + 1), true, rfl, ⟨by rw [HV.out, (Fx.not_great _).2 ⟨by omega, by omega⟩]; rfl, by rw [HV.out]; simp⟩, HB.out⟩
      · skip
        go_wp2
        go_ret2
        exact ⟨q, true, rfl, ⟨by rw [HV.out, if_neg (by simp), (Fx.not_great _).2 ⟨by omega, hq1⟩]; rfl, by rw [HV.out]; simp⟩, HB.out⟩
    | k + 1, hk, HI =>
      have e : ((k + 1 : Nat) : Int) - 1 = (k : Int) := by omega
      rw [e]
      have i0 : (0 : Int) ≤ (k : Int) := by omega
      have i1 : (k : Int) < 8 := by omega
      have c0 := HL.out.dig k (by omega)
      have b0 := HA.out k (by omega)
      have HT : Hid _ := top_step a k (by omega)
      have HP : Hid _ := top_nonneg HA.out (k + 1) (by omega)
      have HW : Hid _ := top_le HA.out k (by omega)
      obtain ⟨x, hx⟩ : ∃ x, x = a k := ⟨_, rfl⟩
      obtain ⟨P, hP⟩ : ∃ P, P = top a (k + 1) := ⟨_, rfl⟩
      rw [← hx] at c0 b0 HT
      rw [← hP] at HT HP HI
      have HX : Hid _ := hx
      clear hx hP e
      by_cases hskip : x = 0 ∧ q = 0 ∧ r = 0
      · obtain ⟨rfl, rfl, rfl⟩ := hskip
        have HM : Hid (0 * C + 0 = top a k) := by show _ = _; rw [HT.out, ← HI.out]; omega
        go_wp2
        go_roundw
        case rel => exact ⟨k, 0, 0, by omega, by go_num, rfl, rfl, by omega, by omega, by omega, hC0, HM.out, HL.out, HB.out⟩
        case measure => show (((k : Int) - 1) + 1).toNat < ((k : Int) + 1).toNat; omega
      · have hor : x ≠ 0 ∨ (x = 0 ∧ q ≠ 0) ∨ (x = 0 ∧ q = 0 ∧ r ≠ 0) := by omega
        clear hskip
        rcases hor with g | ⟨g, g'⟩ | ⟨g, g', g''⟩
        all_goals go_wp2
        all_goals try clear g''
        all_goals try clear g'
        all_goals clear g
        all_goals (
          go_loopw [7, 8, 10] (fun qq rr bb wr => ∃ (m : Nat) (q r : Int), m ≤ 24 ∧ bb = .int .i64 (bitOf m) ∧ qq = .int .i64 q ∧ rr = .int .i64 r ∧ 0 ≤ q ∧ q ≤ 4611686018427387903 ∧ 0 ≤ r ∧ r < C ∧ Hid (q * C + r = P * 2 ^ (24 - m) + x / 2 ^ m) ∧ Hid (Lies wr w.heap.size s a) ∧ Hid (Below w.heap.size w wr)) (fun _ _ bb _ => (intOf bb).toNat)
          case atStart => exact ⟨24, q, r, Nat.le_refl _, by simp [bitOf], rfl, rfl, hq0, hq1, hr0, hr1, by show _ = _; rw [HI.out, Int.ediv_eq_zero_of_lt (by omega) (by simpa using b0.2)]; simp, HL.out, HB.out⟩
          case round =>
            clear HI HL HB c0 hq0 hq1 hr0 hr1
            obtain ⟨m, q, r, hm, rfl, rfl, rfl, hq0, hq1, hr0, hr1, HI, HL, HB⟩ := hrel
            match m, hm, HI with
            | 0, _, HI =>
              have HM : Hid (q * C + r = top a k) := by show _ = _; rw [HI.out, HT.out]; simp
              have hb0 : bitOf 0 = 0 := rfl
              rw [hb0]
              go_wp2
              go_roundw
              case rel => exact ⟨k, q, r, by omega, by go_num, rfl, rfl, hq0, hq1, hr0, hr1, HM.out, HL.out, HB.out⟩
              case measure => show (((k : Int) - 1) + 1).toNat < ((k : Int) + 1).toNat; omega
            | m + 1, hm, HI =>
              have hb0 : bitOf (m + 1) = 2 ^ m := rfl
              rw [hb0]
              have c0 := HL.out.dig k (by omega)
              rw [← HX.out] at c0
              have HN : Hid (∀ q' r' : Int, q' * C + r' = 2 * q * C + (2 * r + x / 2 ^ m % 2) → q' * C + r' = P * 2 ^ (24 - m) + x / 2 ^ m) := fun q' r' h => h.trans (down_bit (by omega : m < 24) rfl HI.out)
              have HY : Hid (2305843009213693951 < q → 4611686018427387904 ≤ val a 8 / C) := fun h => down_early (by omega : m < 24) HP.out b0.1 hr0 hC0 rfl HI.out h (by rw [← HT.out]; exact HW.out)
              have HH : Hid _ := bit_half m
              have hb1 := bit_pos m
              have hb2 := bit_le (by omega : m < 24)
              obtain ⟨bt, hbt⟩ : ∃ b, b = (2 : Int) ^ m := ⟨_, rfl⟩
              rw [← hbt] at HH hb1 hb2
              rw [← hbt]
              have y0 : 0 ≤ x / bt := Int.ediv_nonneg b0.1 (by omega)
              have y1 : x / bt ≤ x := Int.ediv_le_self _ b0.1
              obtain ⟨y, hy⟩ : ∃ y, y = x / bt := ⟨_, rfl⟩
              have HYY : Hid (y = x / 2 ^ m) := by show _ = _; rw [← hbt]; exact hy
              rw [← hy] at y0 y1
              clear hbt hb0 HI
              have hbit : y % 2 = 1 ∨ y % 2 = 0 := by omega
              rcases hbit with hbit | hbit
              · skip
                by_cases hq : 2305843009213693951 < q
                · have HZ : Hid _ := HG.out (HY.out hq)
                  go_wp2
                  go_ret2
                  exact ⟨0, false, rfl, ⟨by rw [HZ.out]; rfl, rfl⟩, HB.out⟩
                by_cases hr : C ≤ 2 * r + 1
                · skip
                  go_wp2
                  go_roundw
                  case rel => exact ⟨m, 2 * q + 1, 2 * r + 1 - C, by omega, by rw [HH.out], rfl, rfl, by omega, by omega, by omega, by omega, HN.out _ _ (by rw [← HYY.out, hbit]; rw [Int.add_mul]; omega), HL.out, HB.out⟩
                  case measure => show (bt / 2).toNat < bt.toNat; omega
                · skip
                  go_wp2
                  go_roundw
                  case rel => exact ⟨m, 2 * q, 2 * r + 1, by omega, by rw [HH.out], rfl, rfl, by omega, by omega, by omega, by omega, HN.out _ _ (by rw [← HYY.out, hbit]), HL.out, HB.out⟩
                  case measure => show (bt / 2).toNat < bt.toNat; omega
              · skip
                by_cases hq : 2305843009213693951 < q
                · have HZ : Hid _ := HG.out (HY.out hq)
                  go_wp2
                  go_ret2
                  exact ⟨0, false, rfl, ⟨by rw [HZ.out]; rfl, rfl⟩, HB.out⟩
                by_cases hr : C ≤ 2 * r
                · skip
                  go_wp2
                  go_roundw
                  case rel => exact ⟨m, 2 * q + 1, 2 * r - C, by omega, by rw [HH.out], rfl, rfl, by omega, by omega, by omega, by omega, HN.out _ _ (by rw [← HYY.out, hbit]; rw [Int.add_mul]; omega), HL.out, HB.out⟩
                  case measure => show (bt / 2).toNat < bt.toNat; omega
                · skip
                  go_wp2
                  go_roundw
                  case rel => exact ⟨m, 2 * q, 2 * r, by omega, by rw [HH.out], rfl, rfl, by omega, by omega, by omega, by omega, HN.out _ _ (by rw [← HYY.out, hbit]; omega), HL.out, HB.out⟩
                  case measure => show (bt / 2).toNat < bt.toNat; omega)

/-- A quotient, down. -/
theorem down_any (s : Bool) (a : Nat → Int) (c : Int) (w : World) (ha : Digs a) (hc : c ≠ 0) (h1 : -4611686018427387903 ≤ c) (h2 : c ≤ 4611686018427387903) :
    Calls Try.prog 61 #[wv s a, .int .i64 c] w fun e w' => ∃ n ok, e = .returned (.tuple #[.int .i64 n, .bool ok]) ∧ Hid (ok = !Fx.great (Fx.fl (sv s a) c) ∧ n = if ok then Fx.fl (sv s a) c else 0) ∧ Hid (Below w.heap.size w w') := by
  unfold Fx.fl
  by_cases h : c < 0
  · rw [if_pos h, ← sv_not]
    exact down_neg s a c w ha h h1
  · rw [if_neg h]
    exact down_pos s a c w ha (by omega) h2

end Go.Proofs.Ytioailboehpcaaa
