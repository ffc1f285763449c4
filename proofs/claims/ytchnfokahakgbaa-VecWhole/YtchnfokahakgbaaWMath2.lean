/- Turned, and turned back: in plain numbers. -/
import Derived.Test.YtchnfokahakgbaaWMath
namespace Go.Proofs.Ytchnfokahakgbaa
open Go.RowKit Fx
namespace WM

theorem id_in {E K : Int} (hE : -34359738376 ≤ E ∧ E ≤ 34359738376) (hK : -18446744108069289992 ≤ K ∧ K ≤ 18446744108069289992) : -5704427701027032306735164424192 ≤ 4 * (E * K) ∧ 4 * (E * K) ≤ 5704427701027032306735164424192 := by
  have := mul_in hE hK
  omega
theorem hz_of {L D E K : Int} (e : L - 18446744073709551616 * D = 4 * (E * K)) (hE : -34359738376 ≤ E ∧ E ≤ 34359738376) (hK : -18446744108069289992 ≤ K ∧ K ≤ 18446744108069289992) :
    -5704427701027032306735164424192 ≤ L - 18446744073709551616 * D ∧ L - 18446744073709551616 * D ≤ 5704427701027032306735164424192 := by
  rw [e]; exact id_in hE hK
theorem same_id (s w x y z : Int) : (s - (2 * (y * y) + 2 * (z * z))) * (s - (2 * (y * y) + 2 * (z * z))) + (2 * (x * y) + 2 * (w * z)) * (2 * (x * y) + 2 * (w * z)) + (2 * (x * z) + 2 * (w * -y)) * (2 * (x * z) + 2 * (w * -y)) - s * s = 4 * ((w * w + (x * x + (y * y + z * z)) - s) * (y * y + z * z)) := by grind
theorem same_id1 (s w x y z : Int) : (2 * (x * y) + 2 * (w * -z)) * (2 * (x * y) + 2 * (w * -z)) + (s - (2 * (x * x) + 2 * (z * z))) * (s - (2 * (x * x) + 2 * (z * z))) + (2 * (y * z) + 2 * (w * x)) * (2 * (y * z) + 2 * (w * x)) - s * s = 4 * ((w * w + (x * x + (y * y + z * z)) - s) * (x * x + z * z)) := by grind
theorem same_id2 (s w x y z : Int) : (2 * (x * z) + 2 * (w * y)) * (2 * (x * z) + 2 * (w * y)) + (2 * (y * z) + 2 * (w * -x)) * (2 * (y * z) + 2 * (w * -x)) + (s - (2 * (x * x) + 2 * (y * y))) * (s - (2 * (x * x) + 2 * (y * y))) - s * s = 4 * ((w * w + (x * x + (y * y + z * z)) - s) * (x * x + y * y)) := by grind
theorem other_id01 (s w x y z : Int) : (s - (2 * (y * y) + 2 * (z * z))) * (2 * (x * y) + 2 * (w * -z)) + (2 * (x * y) + 2 * (w * z)) * (s - (2 * (x * x) + 2 * (z * z))) + (2 * (x * z) + 2 * (w * -y)) * (2 * (y * z) + 2 * (w * x)) - s * 0 = 4 * ((w * w + (x * x + (y * y + z * z)) - s) * -(x * y)) := by grind
theorem other_id02 (s w x y z : Int) : (s - (2 * (y * y) + 2 * (z * z))) * (2 * (x * z) + 2 * (w * y)) + (2 * (x * y) + 2 * (w * z)) * (2 * (y * z) + 2 * (w * -x)) + (2 * (x * z) + 2 * (w * -y)) * (s - (2 * (x * x) + 2 * (y * y))) - s * 0 = 4 * ((w * w + (x * x + (y * y + z * z)) - s) * -(x * z)) := by grind
theorem other_id12 (s w x y z : Int) : (2 * (x * y) + 2 * (w * -z)) * (2 * (x * z) + 2 * (w * y)) + (s - (2 * (x * x) + 2 * (z * z))) * (2 * (y * z) + 2 * (w * -x)) + (2 * (y * z) + 2 * (w * x)) * (s - (2 * (x * x) + 2 * (y * y))) - s * 0 = 4 * ((w * w + (x * x + (y * y + z * z)) - s) * -(y * z)) := by grind

def Whole (w x y z : Int) : Prop := (-4294967296 ≤ w ∧ w ≤ 4294967296) ∧ (-4294967296 ≤ x ∧ x ≤ 4294967296) ∧ (-4294967296 ≤ y ∧ y ≤ 4294967296) ∧ (-4294967296 ≤ z ∧ z ≤ 4294967296) ∧
    -34359738376 ≤ w * w + (x * x + (y * y + z * z)) - 18446744073709551616 ∧ w * w + (x * x + (y * y + z * z)) - 18446744073709551616 ≤ 34359738376

def Gram (m0 m1 m2 k0 k1 k2 D : Int) : Prop := -365072220160 ≤ m0 * k0 + m1 * k1 + m2 * k2 - D ∧ m0 * k0 + m1 * k1 + m2 * k2 - D ≤ 365072220160
theorem Gram.comm {m0 m1 m2 k0 k1 k2 D : Int} (h : Gram m0 m1 m2 k0 k1 k2 D) : Gram k0 k1 k2 m0 m1 m2 D := by
  unfold Gram at h ⊢
  rw [Int.mul_comm k0, Int.mul_comm k1, Int.mul_comm k2]
  exact h

theorem grams {w x y z m0 m1 m2 m3 m4 m5 m6 m7 m8 : Int} (h : Whole w x y z)
    (n0 : Near m0 (18446744073709551616 - (2 * (y * y) + 2 * (z * z)))) (n1 : Near m1 (2 * (x * y) + 2 * (w * -z))) (n2 : Near m2 (2 * (x * z) + 2 * (w * y)))
    (n3 : Near m3 (2 * (x * y) + 2 * (w * z))) (n4 : Near m4 (18446744073709551616 - (2 * (x * x) + 2 * (z * z)))) (n5 : Near m5 (2 * (y * z) + 2 * (w * -x)))
    (n6 : Near m6 (2 * (x * z) + 2 * (w * -y))) (n7 : Near m7 (2 * (y * z) + 2 * (w * x))) (n8 : Near m8 (18446744073709551616 - (2 * (x * x) + 2 * (y * y)))) :
    Gram m0 m3 m6 m0 m3 m6 18446744073709551616 ∧ Gram m1 m4 m7 m1 m4 m7 18446744073709551616 ∧ Gram m2 m5 m8 m2 m5 m8 18446744073709551616 ∧ Gram m0 m3 m6 m1 m4 m7 0 ∧ Gram m0 m3 m6 m2 m5 m8 0 ∧ Gram m1 m4 m7 m2 m5 m8 0 := by
  obtain ⟨_, _, _, _, h1, h2⟩ := h
  have hE : -34359738376 ≤ w * w + (x * x + (y * y + z * z)) - 18446744073709551616 ∧ w * w + (x * x + (y * y + z * z)) - 18446744073709551616 ≤ 34359738376 := ⟨h1, h2⟩
  have pw := sq_nonneg w
  have px := sq_nonneg x
  have py := sq_nonneg y
  have pz := sq_nonneg z
  have txy := two_le (a := x) (b := y)
  have txz := two_le (a := x) (b := z)
  have tyz := two_le (a := y) (b := z)
  refine ⟨gram n0 n3 n6 n0 n3 n6 (hz_of (same_id _ w x y z) hE (by omega)), gram n1 n4 n7 n1 n4 n7 (hz_of (same_id1 _ w x y z) hE (by omega)), gram n2 n5 n8 n2 n5 n8 (hz_of (same_id2 _ w x y z) hE (by omega)),
    gram n0 n3 n6 n1 n4 n7 (hz_of (other_id01 _ w x y z) hE (by omega)), gram n0 n3 n6 n2 n5 n8 (hz_of (other_id02 _ w x y z) hE (by omega)), gram n1 n4 n7 n2 n5 n8 (hz_of (other_id12 _ w x y z) hE (by omega))⟩

/-- Three products, rounded. -/
theorem dot3 {m0 m1 m2 a0 a1 a2 B : Int} (h0 : -8589934592 ≤ m0 ∧ m0 ≤ 8589934592) (h1 : -8589934592 ≤ m1 ∧ m1 ≤ 8589934592) (h2 : -8589934592 ≤ m2 ∧ m2 ≤ 8589934592)
    (k0 : -B ≤ a0 ∧ a0 ≤ B) (k1 : -B ≤ a1 ∧ a1 ≤ B) (k2 : -B ≤ a2 ∧ a2 ≤ B) (hB : B ≤ 1125899906842624) :
    ∃ r : Int, dot [m0, m1, m2] [a0, a1, a2] = some r ∧ (4294967296 * r ≤ m0 * a0 + (m1 * a1 + m2 * a2) ∧ m0 * a0 + (m1 * a1 + m2 * a2) < 4294967296 * r + 4294967296) ∧ (-(6 * B + 1) ≤ r ∧ r ≤ 6 * B + 1) := by
  have j0 := mul_in h0 k0
  have j1 := mul_in h1 k1
  have j2 := mul_in h2 k2
  have e : prods [m0, m1, m2] [a0, a1, a2] / 4294967296 = (m0 * a0 + (m1 * a1 + m2 * a2)) / 4294967296 := by simp only [prods, Int.add_zero]
  have g1 : [m0, m1, m2].any great = false := by simp [(not_great m0).2 (by omega), (not_great m1).2 (by omega), (not_great m2).2 (by omega)]
  have g2 : [a0, a1, a2].any great = false := by simp [(not_great a0).2 (by omega), (not_great a1).2 (by omega), (not_great a2).2 (by omega)]
  have hX : -(25769803776 * B) ≤ m0 * a0 + (m1 * a1 + m2 * a2) ∧ m0 * a0 + (m1 * a1 + m2 * a2) ≤ 25769803776 * B := by omega
  generalize m0 * a0 + (m1 * a1 + m2 * a2) = X at *
  refine ⟨X / 4294967296, ?_, by omega, by omega⟩
  have g3 : great (X / 4294967296) = false := (not_great _).2 (by omega)
  unfold dot
  rw [if_neg (by simp), if_neg (by simp), g1, g2, e]
  simp [told, g3]

theorem back_one {c0 c1 c2 m0 m1 m2 m3 m4 m5 m6 m7 m8 a0 a1 a2 t0 t1 t2 b A0 A1 A2 L D0 D1 D2 : Int}
    (hG0 : Gram m0 m3 m6 c0 c1 c2 D0) (hG1 : Gram m1 m4 m7 c0 c1 c2 D1) (hG2 : Gram m2 m5 m8 c0 c1 c2 D2)
    (h0 : -8589934592 ≤ c0 ∧ c0 ≤ 8589934592) (h1 : -8589934592 ≤ c1 ∧ c1 ≤ 8589934592) (h2 : -8589934592 ≤ c2 ∧ c2 ≤ 8589934592)
    (ht0 : 4294967296 * t0 ≤ m0 * a0 + (m1 * a1 + m2 * a2) ∧ m0 * a0 + (m1 * a1 + m2 * a2) < 4294967296 * t0 + 4294967296)
    (ht1 : 4294967296 * t1 ≤ m3 * a0 + (m4 * a1 + m5 * a2) ∧ m3 * a0 + (m4 * a1 + m5 * a2) < 4294967296 * t1 + 4294967296)
    (ht2 : 4294967296 * t2 ≤ m6 * a0 + (m7 * a1 + m8 * a2) ∧ m6 * a0 + (m7 * a1 + m8 * a2) < 4294967296 * t2 + 4294967296)
    (hb : 4294967296 * b ≤ c0 * t0 + (c1 * t1 + c2 * t2) ∧ c0 * t0 + (c1 * t1 + c2 * t2) < 4294967296 * b + 4294967296)
    (ha0 : -A0 ≤ a0 ∧ a0 ≤ A0) (ha1 : -A1 ≤ a1 ∧ a1 ≤ A1) (ha2 : -A2 ≤ a2 ∧ a2 ≤ A2) (hA : A0 + A1 + A2 ≤ 2 * L + 1) :
    -(365072220160 * (2 * L + 1) + 129127208515966861312) ≤ 18446744073709551616 * b - (D0 * a0 + D1 * a1 + D2 * a2) ∧ 18446744073709551616 * b - (D0 * a0 + D1 * a1 + D2 * a2) ≤ 365072220160 * (2 * L + 1) + 129127208515966861312 := by
  obtain ⟨r0, e0⟩ : ∃ r, r = m0 * a0 + (m1 * a1 + m2 * a2) - 4294967296 * t0 := ⟨_, rfl⟩
  obtain ⟨r1, e1⟩ : ∃ r, r = m3 * a0 + (m4 * a1 + m5 * a2) - 4294967296 * t1 := ⟨_, rfl⟩
  obtain ⟨r2, e2⟩ : ∃ r, r = m6 * a0 + (m7 * a1 + m8 * a2) - 4294967296 * t2 := ⟨_, rfl⟩
  have i0 : -4294967296 ≤ r0 ∧ r0 ≤ 4294967296 := by clear hG0 hG1 hG2 ht1 ht2 hb; omega
  have i1 : -4294967296 ≤ r1 ∧ r1 ≤ 4294967296 := by clear hG0 hG1 hG2 ht0 ht2 hb; omega
  have i2 : -4294967296 ≤ r2 ∧ r2 ≤ 4294967296 := by clear hG0 hG1 hG2 ht0 ht1 hb; omega
  have k0 := mul_in h0 i0
  have k1 := mul_in h1 i1
  have k2 := mul_in h2 i2
  have j0 := mul_in hG0 ha0
  have j1 := mul_in hG1 ha1
  have j2 := mul_in hG2 ha2
  have key : 4294967296 * (c0 * t0 + (c1 * t1 + c2 * t2)) = (m0 * c0 + m3 * c1 + m6 * c2 - D0) * a0 + (m1 * c0 + m4 * c1 + m7 * c2 - D1) * a1 + (m2 * c0 + m5 * c1 + m8 * c2 - D2) * a2 + (D0 * a0 + D1 * a1 + D2 * a2) - (c0 * r0 + c1 * r1 + c2 * r2) := by
    rw [e0, e1, e2]; grind
  clear hG0 hG1 hG2 ht0 ht1 ht2 e0 e1 e2 i0 i1 i2 h0 h1 h2 ha0 ha1 ha2
  generalize (m0 * c0 + m3 * c1 + m6 * c2 - D0) * a0 = X0 at *
  generalize (m1 * c0 + m4 * c1 + m7 * c2 - D1) * a1 = X1 at *
  generalize (m2 * c0 + m5 * c1 + m8 * c2 - D2) * a2 = X2 at *
  generalize D0 * a0 + D1 * a1 + D2 * a2 = Y at *
  generalize c0 * t0 + (c1 * t1 + c2 * t2) = Z at *
  generalize c0 * r0 = Y0 at *
  generalize c1 * r1 = Y1 at *
  generalize c2 * r2 = Y2 at *
  omega

theorem far_of {a b L : Int} (hL : 0 ≤ L) (h : -(365072220160 * (2 * L + 1) + 129127208515966861312) ≤ 18446744073709551616 * b - 18446744073709551616 * a ∧ 18446744073709551616 * b - 18446744073709551616 * a ≤ 365072220160 * (2 * L + 1) + 129127208515966861312) :
    -(L / 16777216 + 64) ≤ b - a ∧ b - a ≤ L / 16777216 + 64 := by omega

theorem turned_back {w x y z a0 a1 a2 : Int} (h : Whole w x y z) (h0 : -17592186044416 ≤ a0 ∧ a0 ≤ 17592186044416) (h1 : -17592186044416 ≤ a1 ∧ a1 ≤ 17592186044416) (h2 : -17592186044416 ≤ a2 ∧ a2 ≤ 17592186044416) :
    rowsBad w x y z = false ∧ ∃ m0 m1 m2 m3 m4 m5 m6 m7 m8 t0 t1 t2 b0 b1 b2 L : Int, (m0 = rowsAt0 w x y z ∧ m1 = rowsAt1 w x y z ∧ m2 = rowsAt2 w x y z ∧ m3 = rowsAt3 w x y z ∧ m4 = rowsAt4 w x y z ∧ m5 = rowsAt5 w x y z ∧ m6 = rowsAt6 w x y z ∧ m7 = rowsAt7 w x y z ∧ m8 = rowsAt8 w x y z) ∧
      (dot [m0, m1, m2] [a0, a1, a2] = some t0 ∧ dot [m3, m4, m5] [a0, a1, a2] = some t1 ∧ dot [m6, m7, m8] [a0, a1, a2] = some t2) ∧
      (dot [m0, m3, m6] [t0, t1, t2] = some b0 ∧ dot [m1, m4, m7] [t0, t1, t2] = some b1 ∧ dot [m2, m5, m8] [t0, t1, t2] = some b2) ∧
      norm [a0, a1, a2] = some L ∧ (0 ≤ L ∧ L ≤ 70368744177664) ∧ (-(L / 16777216 + 64) ≤ b0 - a0 ∧ b0 - a0 ≤ L / 16777216 + 64) ∧ (-(L / 16777216 + 64) ≤ b1 - a1 ∧ b1 - a1 ≤ L / 16777216 + 64) ∧ (-(L / 16777216 + 64) ≤ b2 - a2 ∧ b2 - a2 ≤ L / 16777216 + 64) := by
  obtain ⟨hw, hx, hy, hz, hN1, hN2⟩ := id h
  obtain ⟨hbad, n0, n1, n2, n3, n4, n5, n6, n7, n8⟩ := rows_near hw hx hy hz hN2
  refine ⟨hbad, ?_⟩
  generalize rowsAt0 w x y z = m0 at *
  generalize rowsAt1 w x y z = m1 at *
  generalize rowsAt2 w x y z = m2 at *
  generalize rowsAt3 w x y z = m3 at *
  generalize rowsAt4 w x y z = m4 at *
  generalize rowsAt5 w x y z = m5 at *
  generalize rowsAt6 w x y z = m6 at *
  generalize rowsAt7 w x y z = m7 at *
  generalize rowsAt8 w x y z = m8 at *
  obtain ⟨G00, G11, G22, G01, G02, G12⟩ := grams h n0 n1 n2 n3 n4 n5 n6 n7 n8
  have c0 := n0.2.2
  have c1 := n1.2.2
  have c2 := n2.2.2
  have c3 := n3.2.2
  have c4 := n4.2.2
  have c5 := n5.2.2
  have c6 := n6.2.2
  have c7 := n7.2.2
  have c8 := n8.2.2
  clear n0 n1 n2 n3 n4 n5 n6 n7 n8 hbad hN1 hN2
  obtain ⟨t0, d0, s0, u0⟩ := dot3 c0 c1 c2 h0 h1 h2 (by omega)
  obtain ⟨t1, d1, s1, u1⟩ := dot3 c3 c4 c5 h0 h1 h2 (by omega)
  obtain ⟨t2, d2, s2, u2⟩ := dot3 c6 c7 c8 h0 h1 h2 (by omega)
  obtain ⟨b0, e0, v0, _⟩ := dot3 c0 c3 c6 u0 u1 u2 (by omega)
  obtain ⟨b1, e1, v1, _⟩ := dot3 c1 c4 c7 u0 u1 u2 (by omega)
  obtain ⟨b2, e2, v2, _⟩ := dot3 c2 c5 c8 u0 u1 u2 (by omega)
  obtain ⟨A0, A00, A01, A02, A03⟩ := size_of a0
  obtain ⟨A1, A10, A11, A12, A13⟩ := size_of a1
  obtain ⟨A2, A20, A21, A22, A23⟩ := size_of a2
  have hc := cauchy3 A0 A1 A2
  rw [A02, A12, A22] at hc
  have m0' := mul_in h0 h0
  have m1' := mul_in h1 h1
  have m2' := mul_in h2 h2
  have p0 := sq_nonneg a0
  have p1 := sq_nonneg a1
  have p2 := sq_nonneg a2
  obtain ⟨p, q⟩ := isq_is (a0 * a0 + (a1 * a1 + a2 * a2)).toNat
  obtain ⟨l, hl⟩ : ∃ l : Nat, l = isq (a0 * a0 + (a1 * a1 + a2 * a2)).toNat := ⟨_, rfl⟩
  rw [← hl] at p q
  have p' := Int.ofNat_le.2 p
  have q' := Int.ofNat_lt.2 q
  rw [Int.toNat_of_nonneg (by omega), Int.natCast_mul] at p' q'
  rw [Int.natCast_add] at q'
  clear p q
  have l2 : (l : Int) ≤ 70368744177664 := by
    clear A03 A13 A23 s0 s1 s2 v0 v1 v2
    apply Int.not_lt.1
    intro hlt
    have := Int.mul_le_mul (show (70368744177664 : Int) ≤ l by omega) (show (70368744177664 : Int) ≤ l by omega) (by omega) (by omega)
    omega
  have hA : A0 + A1 + A2 ≤ 2 * (l : Int) + 1 := by
    clear A03 A13 A23 s0 s1 s2 v0 v1 v2
    apply Int.not_lt.1
    intro hlt
    have := Int.mul_le_mul (show 2 * ((l : Int) + ((1 : Nat) : Int)) ≤ A0 + A1 + A2 by omega) (show 2 * ((l : Int) + ((1 : Nat) : Int)) ≤ A0 + A1 + A2 by omega) (by omega) (by omega)
    have e : 2 * ((l : Int) + ((1 : Nat) : Int)) * (2 * ((l : Int) + ((1 : Nat) : Int))) = 4 * (((l : Int) + ((1 : Nat) : Int)) * ((l : Int) + ((1 : Nat) : Int))) := by grind
    omega
  have f0 := back_one G00 G01.comm G02.comm c0 c3 c6 s0 s1 s2 v0 A01 A11 A21 hA
  have f1 := back_one G01 G11 G12.comm c1 c4 c7 s0 s1 s2 v1 A01 A11 A21 hA
  have f2 := back_one G02 G12 G22 c2 c5 c8 s0 s1 s2 v2 A01 A11 A21 hA
  have hn : norm [a0, a1, a2] = some (l : Int) := by
    have hpr : prods [a0, a1, a2] [a0, a1, a2] = a0 * a0 + (a1 * a1 + a2 * a2) := by simp only [prods, Int.add_zero]
    have gl : great (l : Int) = false := (not_great _).2 (by omega)
    unfold norm
    rw [if_neg (by simp), hpr, ← hl]
    simp [(not_great a0).2 (by omega), (not_great a1).2 (by omega), (not_great a2).2 (by omega), told, gl]
  simp only [Int.zero_mul, Int.add_zero, Int.zero_add] at f0 f1 f2
  exact ⟨m0, m1, m2, m3, m4, m5, m6, m7, m8, t0, t1, t2, b0, b1, b2, l, ⟨rfl, rfl, rfl, rfl, rfl, rfl, rfl, rfl, rfl⟩, ⟨d0, d1, d2⟩, ⟨e0, e1, e2⟩, hn, ⟨by omega, l2⟩, far_of (by omega) f0, far_of (by omega) f1, far_of (by omega) f2⟩
end WM
end Go.Proofs.Ytchnfokahakgbaa
