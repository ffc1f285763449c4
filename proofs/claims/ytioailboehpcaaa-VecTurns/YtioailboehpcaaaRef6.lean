/- The reference's numbers by digits (tumblerref01): roots, down, bit by bit; great numbers; what is told. -/
import Derived.Test.YtioailboehpcaaaRef5
import Derived.Deep.RegionHeld3
namespace Go.Proofs.Ytioailboehpcaaa
open Go.RowKit Ref

/-- Half way down: r is a root's upper places; m places are open. -/
def RI (X r : Int) (m : Nat) : Prop := 0 ≤ r ∧ r * r ≤ X ∧ X < (r + 2 ^ m) * (r + 2 ^ m) ∧ r + 2 ^ m ≤ 4611686018427387904

theorem ri_start {X : Int} (h0 : 0 ≤ X) (h : X < 4611686018427387904 * 4611686018427387904) : RI X 0 62 := ⟨by omega, by omega, by simpa using h, by decide⟩
theorem ri_up {X r : Int} {m : Nat} (h : RI X r (m + 1)) (hc : (r + 2 ^ m) * (r + 2 ^ m) ≤ X) : RI X (r + 2 ^ m) m := by
  obtain ⟨h1, h2, h3, h4⟩ := h
  have hp := bit_pos m
  rw [Int.pow_succ] at h3 h4
  have e : r + 2 ^ m + 2 ^ m = r + 2 ^ m * 2 := by omega
  exact ⟨by omega, hc, by rw [e]; exact h3, by omega⟩
theorem ri_stay {X r : Int} {m : Nat} (h : RI X r (m + 1)) (hc : X < (r + 2 ^ m) * (r + 2 ^ m)) : RI X r m := by
  obtain ⟨h1, h2, h3, h4⟩ := h
  have hp := bit_pos m
  rw [Int.pow_succ] at h4
  exact ⟨h1, h2, hc, by omega⟩
theorem ri_end {X r : Int} (h : RI X r 0) : r = (Fx.isq X.toNat : Int) ∧ Fx.great (Fx.isq X.toNat : Int) = false := by
  obtain ⟨h1, h2, h3, h4⟩ := h
  have e := Fx.isq_of h1 h2 (by simpa using h3)
  refine ⟨e, ?_⟩
  rw [← e, Fx.not_great]
  simp at h4
  omega
theorem ri_none {X : Int} (h : 4611686018427387904 * 4611686018427387904 ≤ X) : Fx.great (Fx.isq X.toNat : Int) = true := by
  have hX : (0 : Int) ≤ X := by omega
  obtain ⟨x, rfl⟩ := Int.eq_ofNat_of_zero_le hX
  simp only [Int.toNat_natCast]
  obtain ⟨_, b⟩ := Fx.isq_is x
  rw [Fx.great_iff]
  right
  generalize Fx.isq x = y at *
  have hc : 4611686018427387904 * 4611686018427387904 < (y + 1) * (y + 1) := by omega
  apply Int.not_le.1
  intro hle
  have hy : y + 1 ≤ 4611686018427387904 := by omega
  have := Nat.mul_le_mul hy hy
  omega

theorem small_sq {a b : Int} (ha : a.natAbs ≤ 9223372036854775808) (hb : b.natAbs ≤ 9223372036854775808) : (a * b).natAbs < 6277101735386680763835789423207666416102355444464034512896 := by
  rw [Int.natAbs_mul]
  exact Nat.lt_of_le_of_lt (Nat.mul_le_mul ha hb) (by decide)

set_option maxHeartbeats 1000000 in
theorem rootw_any (s : Bool) (a : Nat → Int) (w : World) (ha : Digs a) (h0 : 0 ≤ sv s a) :
    Calls Try.prog 64 #[wv s a] w fun e w' => ∃ n ok, e = .returned (.tuple #[.int .i64 n, .bool ok]) ∧ Hid (ok = !Fx.great (Fx.isq (sv s a).toNat : Int) ∧ n = if ok then (Fx.isq (sv s a).toNat : Int) else 0) ∧ Hid (Below w.heap.size w w') := by
  have HA : Hid _ := ha
  have hX : (sv s a).natAbs < 6277101735386680763835789423207666416102355444464034512896 := by have := ha.lt; have := ha.nonneg; unfold sv; split <;> omega
  have HX : Hid _ := hX
  have H0 : Hid _ := h0
  clear ha hX h0
  go_enter Try.func64, Try.ntmps64
  go_wp2_with (fail)
  refine (of_any 4611686018427387904 _ (by omega) (by omega)).mono ?_
  rintro e w1 ⟨u1, d1, rfl, S1, B1⟩
  go_wp2_with (fail)
  refine (of_any 4611686018427387904 _ (by omega) (by omega)).mono ?_
  rintro e w2 ⟨u2, d2, rfl, S2, B2⟩
  go_wp2_with (fail)
  refine (times_any u1 u2 d1 d2 _ S1.out.1 S2.out.1 (by rw [S1.out.2, S2.out.2]; decide)).mono ?_
  rintro e w3 ⟨u3, d3, rfl, S3, B3⟩
  have B4 : Hid (Below w.heap.size w w3) := below_step (below_step (below_step (new_after w _) B1.out) B2.out) B3.out
  have LA : Hid (Lies w3 w.heap.size s a) := ((Lies.below (lies_new w s a 84) B1.out (by simp)).below B2.out (by have := B1.out.size; simp at this; omega)).below B3.out (by have := B1.out.size; have := B2.out.size; simp at *; omega)
  have S4 : Hid (Digs d3 ∧ sv u3 d3 = 4611686018427387904 * 4611686018427387904) := ⟨S3.out.1, by rw [S3.out.2, S1.out.2, S2.out.2]⟩
  obtain ⟨a0, a1, a2, a3, a4, a5, a6, a7, a8⟩ := LA.out.cells
  have hs : w.heap.size < w3.heap.size := LA.out.lt
  clear S1 S2 S3 B1 B2 B3
  go_wp2_with (fail)
  refine (less_any s u3 a d3 _ HA.out S4.out.1 (by rw [S4.out.2]; have := HX.out; have := H0.out; omega)).mono ?_
  rintro e w5 ⟨is, rfl, S5, B5⟩
  have LB : Hid (Lies w5 w.heap.size s a) := (LA.out.alloc _).below B5.out (by simp; omega)
  have B6 : Hid (Below w.heap.size w w5) := below_step (B4.out.alloc B4.out.size _) B5.out
  have S6 : Hid (is = true ↔ sv s a < 4611686018427387904 * 4611686018427387904) := by show _ ↔ _; rw [← S4.out.2]; exact S5.out
  clear LA B4 S4 S5 B5 a0 a1 a2 a3 a4 a5 a6 a7 a8 hs
  cases is
  · go_wp2
    go_ret2
    have hg := ri_none (X := sv s a) (by have := S6.out; simp at this; omega)
    exact ⟨0, false, rfl, ⟨by rw [hg]; rfl, rfl⟩, B6.out⟩
  · have HR : Hid _ := ri_start H0.out (S6.out.1 rfl)
    clear S6
    go_wp2
    go_loopw [6, 7] (fun rr bb wr => ∃ (m : Nat) (r : Int), m ≤ 62 ∧ bb = .int .i64 (bitOf m) ∧ rr = .int .i64 r ∧ 0 ≤ r ∧ r ≤ 4611686018427387904 ∧ Hid (RI (sv s a) r m) ∧ Hid (Lies wr w.heap.size s a) ∧ Hid (Below w.heap.size w wr)) (fun _ bb _ => (intOf bb).toNat)
    case atStart => exact ⟨62, 0, Nat.le_refl _, rfl, rfl, by omega, by omega, HR.out, LB.out, B6.out⟩
    case round =>
      clear LB B6 HR
      obtain ⟨m, r, hm, rfl, rfl, hr0, hr1, HI, HL, HB⟩ := hrel
      match m, hm, HI with
      | 0, _, HI =>
        have hb0 : bitOf 0 = 0 := rfl
        rw [hb0]
        have HE : Hid _ := ri_end HI.out
        go_wp2
        go_ret2
        exact ⟨r, true, rfl, ⟨by rw [HE.out.2]; rfl, by rw [HE.out.1]; rfl⟩, HB.out⟩
      | m + 1, hm, HI =>
        have hb0 : bitOf (m + 1) = 2 ^ m := rfl
        rw [hb0]
        have HU : Hid (∀ b : Int, b = 2 ^ m → (r + b) * (r + b) ≤ sv s a → RI (sv s a) (r + b) m) := fun b hb h => by subst hb; exact ri_up HI.out h
        have HV : Hid (∀ b : Int, b = 2 ^ m → sv s a < (r + b) * (r + b) → RI (sv s a) r m) := fun b hb h => by subst hb; exact ri_stay HI.out h
        have hb1 := bit_pos m
        have hb2 : r + 2 ^ m ≤ 4611686018427387904 := by have := HI.out.2.2.2; rw [Int.pow_succ] at this; omega
        have HH : Hid _ := bit_half m
        obtain ⟨bt, hbt⟩ : ∃ b, b = (2 : Int) ^ m := ⟨_, rfl⟩
        rw [← hbt] at HH hb1 hb2
        rw [← hbt]
        have HU' : Hid _ := HU.out bt hbt
        have HV' : Hid _ := HV.out bt hbt
        clear hbt HU HV HI hb0
        go_wp2_with (fail)
        refine (of_any (r + bt) _ (by omega) (by omega)).mono ?_
        rintro e w1 ⟨u1, d1, rfl, S1, B1⟩
        have B2 : Hid (Below w.heap.size w w1) := below_step HB.out B1.out
        have LA : Hid (Lies w1 w.heap.size s a) := HL.out.below B1.out HL.out.lt
        have hs : w.heap.size < w1.heap.size := LA.out.lt
        clear B1 HB HL
        have HT : Hid _ := fun W => times_any u1 u1 d1 d1 W S1.out.1 S1.out.1 (by rw [S1.out.2]; exact small_sq (by omega) (by omega))
        go_wp2_with (fail)
        obtain ⟨W, hW⟩ : ∃ W, W = w1.alloc (.cells #[.bool u1, .int .i64 (d1 0), .int .i64 (d1 1), .int .i64 (d1 2), .int .i64 (d1 3), .int .i64 (d1 4), .int .i64 (d1 5), .int .i64 (d1 6), .int .i64 (d1 7)] 84) := ⟨_, rfl⟩
        obtain ⟨t8, ht8⟩ : ∃ t, t = w1.heap.size := ⟨_, rfl⟩
        have LW : Hid (Lies W w.heap.size s a) := by show Lies _ _ _ _; rw [hW]; exact LA.out.alloc _
        have LT : Hid (Lies W t8 u1 d1) := by show Lies _ _ _ _; rw [hW, ht8]; exact lies_new _ _ _ _
        have BW : Hid (Below w.heap.size w W) := by show Below _ _ _; rw [hW]; exact B2.out.alloc B2.out.size _
        rw [← hW, ← ht8]
        clear hW ht8 LA B2 hs
        obtain ⟨a0, a1, a2, a3, a4, a5, a6, a7, a8⟩ := LW.out.drew.cells
        obtain ⟨t0, t1, t2, t3, t4, t5, t6, t7, t8⟩ := LT.out.drew.cells
        go_region_with (first
          | (go_at_call 67; refine (HT.out _).mono ?_; rintro e w4 ⟨u4, d4, rfl, S4, B4⟩; obtain ⟨x0, x1, x2, x3, x4, x5, x6, x7, x8⟩ := (LW.out.drew.below B4.out LW.out.drew.lt).cells)
          | (go_at_call 73; refine (less_any s u4 a d4 _ HA.out S4.out.1 (by have h1 := HX.out; have h2 := H0.out; have h3 := S4.out.1.lt; have h4 := S4.out.1.nonneg; have h5 : 0 ≤ sv u4 d4 := (by rw [S4.out.2, S1.out.2]; exact Int.mul_nonneg (by omega) (by omega)); have h6 : sv u4 d4 ≤ val d4 8 := (by unfold sv; split <;> omega); omega)).mono ?_; rintro e w5 ⟨c, rfl, S5, B5⟩))
        all_goals (
          have HC : Hid (c = true ↔ sv s a < (r + bt) * (r + bt)) := (by show _ ↔ _; rw [← S1.out.2, ← S4.out.2]; exact S5.out)
          have LF : Hid (Lies w5 w.heap.size s a) := (LW.out.drew.below B4.out LW.out.drew.lt).below B5.out (LW.out.drew.below B4.out LW.out.drew.lt).lt
          have BF : Hid (Below w.heap.size w w5) := below_step (below_step BW.out.drew B4.out) B5.out
          clear S1 S4 S5 B4 B5 LW LT BW a0 a1 a2 a3 a4 a5 a6 a7 a8 t0 t1 t2 t3 t4 t5 t6 t7 t8 x0 x1 x2 x3 x4 x5 x6 x7 x8
          cases c
          · go_wp2
            go_roundw
            case rel => exact ⟨m, r + bt, by omega, by rw [HH.out], rfl, by omega, by omega, HU'.out (by have := HC.out; simp at this; omega), LF.out, BF.out⟩
            case measure => show (bt / 2).toNat < bt.toNat; omega
          · go_wp2
            go_roundw
            case rel => exact ⟨m, r, by omega, by rw [HH.out], rfl, by omega, by omega, HV'.out (HC.out.1 rfl), LF.out, BF.out⟩
            case measure => show (bt / 2).toNat < bt.toNat; omega)
end Go.Proofs.Ytioailboehpcaaa
