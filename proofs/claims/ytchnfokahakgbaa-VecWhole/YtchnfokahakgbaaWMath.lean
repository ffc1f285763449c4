/- Turns made whole, their matrices, and what is turned and turned back: in plain numbers. -/
import Derived.Test.YtchnfokahakgbaaUMath
import Derived.Test.YtchnfokahakgbaaVec4
import Derived.Test.YtchnfokahakgbaaRows3
namespace Go.Proofs.Ytchnfokahakgbaa
open Go.RowKit Fx
namespace WM

theorem mul_in {a b A B : Int} (ha : -A ≤ a ∧ a ≤ A) (hb : -B ≤ b ∧ b ≤ B) : -(A * B) ≤ a * b ∧ a * b ≤ A * B := by
  have h1 := Int.mul_nonneg (show 0 ≤ A - a by omega) (show 0 ≤ B + b by omega)
  have h2 := Int.mul_nonneg (show 0 ≤ A + a by omega) (show 0 ≤ B - b by omega)
  have h3 := Int.mul_nonneg (show 0 ≤ A - a by omega) (show 0 ≤ B - b by omega)
  have h4 := Int.mul_nonneg (show 0 ≤ A + a by omega) (show 0 ≤ B + b by omega)
  simp only [Int.add_mul, Int.sub_mul, Int.mul_add, Int.mul_sub] at h1 h2 h3 h4
  omega

theorem norm4_some {x y z u s : Int} (h : norm [x, y, z, u] = some s) : great x = false ∧ great y = false ∧ great z = false ∧ great u = false ∧ great s = false ∧ 0 ≤ s ∧ s * s ≤ x * x + (y * y + (z * z + u * u)) ∧ x * x + (y * y + (z * z + u * u)) < (s + 1) * (s + 1) := by
  unfold norm at h
  split at h
  · simp at h
  · split at h
    · simp at h
    · rename_i ha
      unfold told at h
      split at h
      · simp at h
      · rename_i hg
        have hg' : great _ = false := Bool.eq_false_iff.2 hg
        simp only [Option.some.injEq] at h
        rw [h] at hg'
        obtain ⟨p, q⟩ := isq_is (prods [x, y, z, u] [x, y, z, u]).toNat
        have h0 := prods_self [x, y, z, u]
        generalize hr : isq (prods [x, y, z, u] [x, y, z, u]).toNat = r at *
        have p' := Int.ofNat_le.2 p
        have q' := Int.ofNat_lt.2 q
        rw [Int.toNat_of_nonneg h0, Int.natCast_mul] at p' q'
        rw [Int.natCast_add] at q'
        simp only [prods, Int.add_zero] at p' q'
        simp only [List.any_cons, List.any_nil, Bool.or_false, Bool.not_eq_true, Bool.or_eq_false_iff] at ha
        subst h
        exact ⟨ha.1, ha.2.1, ha.2.2.1, ha.2.2.2, hg', by omega, p', q'⟩

/-- One part of a turn that is made whole; t: the size of x. -/
theorem part4 {x n u t : Int} (hn : 0 < n) (ht : -t ≤ x ∧ x ≤ t) (htn : t ≤ n) (hu : u = x * 4294967296 / n) : -4294967296 ≤ u ∧ u ≤ 4294967296 ∧ n * n * (u * u) ≤ 18446744073709551616 * (x * x) + 8589934592 * (t * n) + n * n ∧ 18446744073709551616 * (x * x) ≤ n * n * (u * u) + 8589934592 * (t * n) := by
  have hd := div_is (x * 4294967296) n (by omega)
  rw [← hu] at hd
  obtain ⟨e, he⟩ : ∃ e, e = x * 4294967296 - u * n := ⟨_, rfl⟩
  have e0 : 0 ≤ e := by omega
  have e1 : e < n := by have := hd.2; rw [Int.add_mul] at this; omega
  have un : u * n = x * 4294967296 - e := by omega
  have sq : n * n * (u * u) = 18446744073709551616 * (x * x) - 8589934592 * (x * e) + e * e := by
    have : n * n * (u * u) = (u * n) * (u * n) := by grind
    rw [this, un]; grind
  have b1 := mul_in (a := x) (b := e) (A := t) (B := n) ht (by omega)
  have b3 : e * e ≤ n * n := Int.mul_le_mul (by omega) (by omega) e0 (by omega)
  have b4 : 0 ≤ e * e := Int.mul_nonneg e0 e0
  refine ⟨?_, ?_, by omega, by omega⟩
  · apply Int.not_lt.1
    intro hlt
    have := Int.mul_le_mul_of_nonneg_right (show u + 1 ≤ -4294967296 by omega) (show 0 ≤ n by omega)
    have := hd.2
    omega
  · apply Int.not_lt.1
    intro hlt
    have := Int.mul_le_mul_of_nonneg_right (show 4294967297 ≤ u by omega) (show 0 ≤ n by omega)
    have := hd.1
    omega

theorem size_of (x : Int) : ∃ t : Int, 0 ≤ t ∧ (-t ≤ x ∧ x ≤ t) ∧ t * t = x * x ∧ (t = x ∨ t = -x) := by
  rcases Int.le_total 0 x with g | g
  · exact ⟨x, g, ⟨by omega, by omega⟩, rfl, Or.inl rfl⟩
  · exact ⟨-x, by omega, ⟨by omega, by omega⟩, by rw [Int.neg_mul_neg], Or.inr rfl⟩

theorem cauchy4 (a b c d : Int) : (a + b + c + d) * (a + b + c + d) ≤ 4 * (a * a + (b * b + (c * c + d * d))) := by
  have h1 := sq_nonneg (a - b)
  have h2 := sq_nonneg (a - c)
  have h3 := sq_nonneg (a - d)
  have h4 := sq_nonneg (b - c)
  have h5 := sq_nonneg (b - d)
  have h6 := sq_nonneg (c - d)
  have e : 4 * (a * a + (b * b + (c * c + d * d))) - (a + b + c + d) * (a + b + c + d) = (a - b) * (a - b) + (a - c) * (a - c) + (a - d) * (a - d) + (b - c) * (b - c) + (b - d) * (b - d) + (c - d) * (c - d) := by grind
  omega
theorem cauchy3 (a b c : Int) : (a + b + c) * (a + b + c) ≤ 3 * (a * a + (b * b + c * c)) := by
  have h1 := sq_nonneg (a - b)
  have h2 := sq_nonneg (a - c)
  have h4 := sq_nonneg (b - c)
  have e : 3 * (a * a + (b * b + c * c)) - (a + b + c) * (a + b + c) = (a - b) * (a - b) + (a - c) * (a - c) + (b - c) * (b - c) := by grind
  omega

/-- What is made whole is one long, but for 4. -/
theorem whole_long {x y z s n : Int} (h : norm [x, y, z, s] = some n) (hn : 2147483648 ≤ n) : ∃ a b c d l, ratio x 4294967296 n = some a ∧ ratio y 4294967296 n = some b ∧ ratio z 4294967296 n = some c ∧ ratio s 4294967296 n = some d ∧ norm [a, b, c, d] = some l ∧ 4294967292 ≤ l ∧ l ≤ 4294967300 ∧
    (-4294967296 ≤ a ∧ a ≤ 4294967296) ∧ (-4294967296 ≤ b ∧ b ≤ 4294967296) ∧ (-4294967296 ≤ c ∧ c ≤ 4294967296) ∧ (-4294967296 ≤ d ∧ d ≤ 4294967296) ∧
    -34359738376 ≤ a * a + (b * b + (c * c + d * d)) - 18446744073709551616 ∧ a * a + (b * b + (c * c + d * d)) - 18446744073709551616 ≤ 34359738376 := by
  obtain ⟨gx, gy, gz, gs, gn, n0, h1, h2⟩ := norm4_some h
  have px := sq_nonneg x
  have py := sq_nonneg y
  have pz := sq_nonneg z
  have ps := sq_nonneg s
  have ix := in_square (x := x) (R := y * y + (z * z + s * s)) (by omega) n0 (by omega)
  have iy := in_square (x := y) (R := x * x + (z * z + s * s)) (by omega) n0 (by omega)
  have iz := in_square (x := z) (R := x * x + (y * y + s * s)) (by omega) n0 (by omega)
  have is := in_square (x := s) (R := x * x + (y * y + z * z)) (by omega) n0 (by omega)
  obtain ⟨tx, tx0, tx1, tx2, tx3⟩ := size_of x
  obtain ⟨ty, ty0, ty1, ty2, ty3⟩ := size_of y
  obtain ⟨tz, tz0, tz1, tz2, tz3⟩ := size_of z
  obtain ⟨ts, ts0, ts1, ts2, ts3⟩ := size_of s
  have hx9 : tx ≤ n := by clear ty3 tz3 ts3; omega
  have hy9 : ty ≤ n := by clear tx3 tz3 ts3; omega
  have hz9 : tz ≤ n := by clear tx3 ty3 ts3; omega
  have hs9 : ts ≤ n := by clear tx3 ty3 tz3; omega
  clear tx3 ty3 tz3 ts3
  have kx := part4 (u := x * 4294967296 / n) (by omega) tx1 hx9 rfl
  have ky := part4 (u := y * 4294967296 / n) (by omega) ty1 hy9 rfl
  have kz := part4 (u := z * 4294967296 / n) (by omega) tz1 hz9 rfl
  have ks := part4 (u := s * 4294967296 / n) (by omega) ts1 hs9 rfl
  have one : ∀ t : Int, great t = false → -4294967296 ≤ t * 4294967296 / n ∧ t * 4294967296 / n ≤ 4294967296 → ratio t 4294967296 n = some (t * 4294967296 / n) := by
    intro t gt hb
    have g1 : great 4294967296 = false := by decide
    have g2 : great (t * 4294967296 / n) = false := (not_great _).2 ⟨Int.le_trans (by omega) hb.1, Int.le_trans hb.2 (by omega)⟩
    unfold ratio fl
    rw [if_neg (by omega : ¬ n = 0), gt, g1, gn, if_neg (by omega : ¬ n < 0)]
    simp [told, g2]
  have r0 := one x gx ⟨kx.1, kx.2.1⟩
  have r1 := one y gy ⟨ky.1, ky.2.1⟩
  have r2 := one z gz ⟨kz.1, kz.2.1⟩
  have r3 := one s gs ⟨ks.1, ks.2.1⟩
  generalize x * 4294967296 / n = a at *
  generalize y * 4294967296 / n = b at *
  generalize z * 4294967296 / n = c at *
  generalize s * 4294967296 / n = d at *
  clear one
  have ga : great a = false := (not_great _).2 (by omega)
  have gb : great b = false := (not_great _).2 (by omega)
  have gc : great c = false := (not_great _).2 (by omega)
  have gd : great d = false := (not_great _).2 (by omega)
  obtain ⟨T, hT⟩ : ∃ T, T = tx + ty + tz + ts := ⟨_, rfl⟩
  have hc := cauchy4 tx ty tz ts
  rw [← hT, tx2, ty2, tz2, ts2] at hc
  have h3 : (n + 1) * (n + 1) = n * n + 2 * n + 1 := by grind
  have hT1 : T ≤ 2 * n + 1 := by
    apply Int.not_lt.1
    intro hlt
    have := Int.mul_le_mul (show 2 * (n + 1) ≤ T by omega) (show 2 * (n + 1) ≤ T by omega) (by omega) (by omega)
    have e : 2 * (n + 1) * (2 * (n + 1)) = 4 * ((n + 1) * (n + 1)) := by grind
    omega
  have hTn : T * n ≤ (2 * n + 1) * n := Int.mul_le_mul_of_nonneg_right hT1 n0
  have hTn' : T * n = tx * n + ty * n + tz * n + ts * n := by rw [hT]; grind
  have e1 : (2 * n + 1) * n = 2 * (n * n) + n := by grind
  have nn : 2147483648 * n ≤ n * n := Int.mul_le_mul_of_nonneg_right hn n0
  have np : 0 < n * n := Int.mul_pos (by omega) (by omega)
  obtain ⟨S, hS⟩ : ∃ S, S = a * a + (b * b + (c * c + d * d)) := ⟨_, rfl⟩
  have pa := sq_nonneg a
  have pb := sq_nonneg b
  have pc := sq_nonneg c
  have pd := sq_nonneg d
  have S0 : 0 ≤ S := by omega
  have hnS : n * n * S = n * n * (a * a) + (n * n * (b * b) + (n * n * (c * c) + n * n * (d * d))) := by rw [hS, Int.mul_add, Int.mul_add, Int.mul_add]
  rw [h3] at h2
  clear hc tx2 ty2 tz2 ts2
  have up : n * n * S ≤ n * n * 18446744108069289992 := by omega
  have lo : n * n * 18446744056529682428 ≤ n * n * S := by omega
  have up' : S ≤ 18446744108069289992 := Int.le_of_mul_le_mul_left up np
  have lo' : 18446744056529682428 ≤ S := Int.le_of_mul_le_mul_left lo np
  have hpr : prods [a, b, c, d] [a, b, c, d] = S := by simp only [prods, Int.add_zero, hS]
  obtain ⟨p, q⟩ := isq_is S.toNat
  obtain ⟨l, hl⟩ : ∃ l : Nat, l = isq S.toNat := ⟨_, rfl⟩
  rw [← hl] at p q
  have p' := Int.ofNat_le.2 p
  have q' := Int.ofNat_lt.2 q
  rw [Int.toNat_of_nonneg S0, Int.natCast_mul] at p' q'
  rw [Int.natCast_add] at q'
  have l1 : (4294967292 : Int) ≤ l := by
    apply Int.not_lt.1
    intro hlt
    have := Int.mul_le_mul (show (l : Int) + ((1 : Nat) : Int) ≤ 4294967292 by omega) (show (l : Int) + ((1 : Nat) : Int) ≤ 4294967292 by omega) (by omega) (by omega)
    omega
  have l2 : (l : Int) ≤ 4294967300 := by
    apply Int.not_lt.1
    intro hlt
    have := Int.mul_le_mul (show (4294967301 : Int) ≤ l by omega) (show (4294967301 : Int) ≤ l by omega) (by omega) (by omega)
    omega
  refine ⟨a, b, c, d, l, r0, r1, r2, r3, ?_, l1, l2, ⟨kx.1, kx.2.1⟩, ⟨ky.1, ky.2.1⟩, ⟨kz.1, kz.2.1⟩, ⟨ks.1, ks.2.1⟩, by omega, by omega⟩
  have gl : great (l : Int) = false := (not_great _).2 (by omega)
  unfold norm
  rw [if_neg (by simp), hpr, ← hl]
  simp [ga, gb, gc, gd, told, gl]

/-- A sum of two products, rounded. -/
theorem dot2 {a b c d : Int} (ha : -8589934592 ≤ a ∧ a ≤ 8589934592) (hb : -8589934592 ≤ b ∧ b ≤ 8589934592) (hc : -4294967296 ≤ c ∧ c ≤ 4294967296) (hd : -4294967296 ≤ d ∧ d ≤ 4294967296) :
    ∃ r : Int, dot [a, b] [c, d] = some r ∧ 4294967296 * r ≤ a * c + b * d ∧ a * c + b * d < 4294967296 * r + 4294967296 ∧ -17179869184 ≤ r ∧ r ≤ 17179869184 := by
  have k1 := mul_in ha hc
  have k2 := mul_in hb hd
  have hv := div_is (a * c + b * d) 4294967296 (by omega)
  have e : prods [a, b] [c, d] / 4294967296 = (a * c + b * d) / 4294967296 := by simp only [prods, Int.add_zero]
  refine ⟨(a * c + b * d) / 4294967296, ?_, by omega, by omega, by omega, by omega⟩
  have g1 : [a, b].any great = false := by simp [(not_great a).2 (by omega), (not_great b).2 (by omega)]
  have g2 : [c, d].any great = false := by simp [(not_great c).2 (by omega), (not_great d).2 (by omega)]
  have g3 : great ((a * c + b * d) / 4294967296) = false := (not_great _).2 (by omega)
  unfold dot
  rw [if_neg (by simp), if_neg (by simp), g1, g2, e]
  simp [told, g3]
theorem add2 {q : Int} (h : -4294967296 ≤ q ∧ q ≤ 4294967296) : add q q = some (2 * q) := by
  unfold add
  rw [(not_great q).2 (by omega), show q + q = 2 * q by omega]
  simp [told, (not_great (2 * q)).2 (by omega)]
theorem sub0 {q : Int} (h : -4294967296 ≤ q ∧ q ≤ 4294967296) : sub 0 q = some (-q) := by
  unfold sub
  rw [(not_great q).2 (by omega), show (0 : Int) - q = -q by omega, (not_great 0).2 (by omega)]
  simp [told, (not_great (-q)).2 (by omega)]
theorem sub1 {q : Int} (h : -17179869184 ≤ q ∧ q ≤ 17179869184) : sub 4294967296 q = some (4294967296 - q) := by
  unfold sub
  rw [(not_great q).2 (by omega), (not_great 4294967296).2 (by omega)]
  simp [told, (not_great (4294967296 - q)).2 (by omega)]

/-- A matrix's part m, as near as a step to R (both counted in steps of steps), and not too great. -/
def Near (m R : Int) : Prop := (-4294967296 ≤ 4294967296 * m - R ∧ 4294967296 * m - R ≤ 4294967296) ∧ (-36893488147419103232 ≤ R ∧ R ≤ 36893488147419103232) ∧ (-8589934592 ≤ m ∧ m ≤ 8589934592)

theorem near_off {r P : Int} (l : 4294967296 * r ≤ P) (u : P < 4294967296 * r + 4294967296) (hP : -18446744108069289992 ≤ P ∧ P ≤ 18446744108069289992) : Near r P := by
  unfold Near
  omega
theorem near_dia {r P : Int} (l : 4294967296 * r ≤ P) (u : P < 4294967296 * r + 4294967296) (hP : 0 ≤ P ∧ P ≤ 36893488216138579984) : Near (4294967296 - r) (18446744073709551616 - P) := by
  unfold Near
  omega
theorem two_le {a b : Int} : -(a * a + b * b) ≤ 2 * (a * b) ∧ 2 * (a * b) ≤ a * a + b * b := by
  have h3 := sq_nonneg (a + b)
  have h4 := sq_nonneg (a - b)
  have e3 : (a + b) * (a + b) = a * a + b * b + 2 * (a * b) := by grind
  have e4 : (a - b) * (a - b) = a * a + b * b - 2 * (a * b) := by grind
  omega
theorem off_le {a b c d M : Int} (h : a * a + b * b + (c * c + d * d) ≤ M) : (-M ≤ 2 * (a * b) + 2 * (c * d) ∧ 2 * (a * b) + 2 * (c * d) ≤ M) ∧ (-M ≤ 2 * (a * b) + 2 * (c * -d) ∧ 2 * (a * b) + 2 * (c * -d) ≤ M) := by
  have h1 := two_le (a := a) (b := b)
  have h2 := two_le (a := c) (b := d)
  rw [Int.mul_neg]
  omega
theorem dia_le {a b c d M : Int} (h : a * a + b * b + (c * c + d * d) ≤ M) : 0 ≤ 2 * (a * a) + 2 * (b * b) ∧ 2 * (a * a) + 2 * (b * b) ≤ 2 * M := by
  have h1 := sq_nonneg a
  have h2 := sq_nonneg b
  have h3 := sq_nonneg c
  have h4 := sq_nonneg d
  omega
theorem neg_in {q : Int} (h : -4294967296 ≤ q ∧ q ≤ 4294967296) : -4294967296 ≤ -q ∧ -q ≤ 4294967296 := by omega
theorem dbl_in {q : Int} (h : -4294967296 ≤ q ∧ q ≤ 4294967296) : -8589934592 ≤ 2 * q ∧ 2 * q ≤ 8589934592 := by omega

theorem rows_near {w x y z : Int} (hw : -4294967296 ≤ w ∧ w ≤ 4294967296) (hx : -4294967296 ≤ x ∧ x ≤ 4294967296) (hy : -4294967296 ≤ y ∧ y ≤ 4294967296) (hz : -4294967296 ≤ z ∧ z ≤ 4294967296)
    (h2 : w * w + (x * x + (y * y + z * z)) - 18446744073709551616 ≤ 34359738376) : rowsBad w x y z = false ∧
    Near (rowsAt0 w x y z) (18446744073709551616 - (2 * (y * y) + 2 * (z * z))) ∧ Near (rowsAt1 w x y z) (2 * (x * y) + 2 * (w * -z)) ∧ Near (rowsAt2 w x y z) (2 * (x * z) + 2 * (w * y)) ∧
    Near (rowsAt3 w x y z) (2 * (x * y) + 2 * (w * z)) ∧ Near (rowsAt4 w x y z) (18446744073709551616 - (2 * (x * x) + 2 * (z * z))) ∧ Near (rowsAt5 w x y z) (2 * (y * z) + 2 * (w * -x)) ∧
    Near (rowsAt6 w x y z) (2 * (x * z) + 2 * (w * -y)) ∧ Near (rowsAt7 w x y z) (2 * (y * z) + 2 * (w * x)) ∧ Near (rowsAt8 w x y z) (18446744073709551616 - (2 * (x * x) + 2 * (y * y))) := by
  have B0 := dia_le (a := y) (b := z) (c := w) (d := x) (M := 18446744108069289992) (by omega)
  have B1 := off_le (a := x) (b := y) (c := w) (d := z) (M := 18446744108069289992) (by omega)
  have B2 := off_le (a := x) (b := z) (c := w) (d := y) (M := 18446744108069289992) (by omega)
  have B4 := dia_le (a := x) (b := z) (c := w) (d := y) (M := 18446744108069289992) (by omega)
  have B5 := off_le (a := y) (b := z) (c := w) (d := x) (M := 18446744108069289992) (by omega)
  have B8 := dia_le (a := x) (b := y) (c := w) (d := z) (M := 18446744108069289992) (by omega)
  obtain ⟨r0, d0, l0, u0, k0, j0⟩ := dot2 (dbl_in hy) (dbl_in hz) hy hz
  obtain ⟨r1, d1, l1, u1, k1, j1⟩ := dot2 (dbl_in hx) (dbl_in hw) hy (neg_in hz)
  obtain ⟨r2, d2, l2, u2, k2, j2⟩ := dot2 (dbl_in hx) (dbl_in hw) hz hy
  obtain ⟨r3, d3, l3, u3, k3, j3⟩ := dot2 (dbl_in hx) (dbl_in hw) hy hz
  obtain ⟨r4, d4, l4, u4, k4, j4⟩ := dot2 (dbl_in hx) (dbl_in hz) hx hz
  obtain ⟨r5, d5, l5, u5, k5, j5⟩ := dot2 (dbl_in hy) (dbl_in hw) hz (neg_in hx)
  obtain ⟨r6, d6, l6, u6, k6, j6⟩ := dot2 (dbl_in hx) (dbl_in hw) hz (neg_in hy)
  obtain ⟨r7, d7, l7, u7, k7, j7⟩ := dot2 (dbl_in hy) (dbl_in hw) hz hx
  obtain ⟨r8, d8, l8, u8, k8, j8⟩ := dot2 (dbl_in hx) (dbl_in hy) hx hy
  simp only [Int.mul_assoc] at l0 u0 l1 u1 l2 u2 l3 u3 l4 u4 l5 u5 l6 u6 l7 u7 l8 u8
  unfold rowsBad rowsAt0 rowsAt1 rowsAt2 rowsAt3 rowsAt4 rowsAt5 rowsAt6 rowsAt7 rowsAt8
  simp only [add2 hw, add2 hx, add2 hy, add2 hz, sub0 hw, sub0 hx, sub0 hy, sub0 hz, Option.getD_some, Option.isNone_some, d0, d1, d2, d3, d4, d5, d6, d7, d8, sub1 ⟨k0, j0⟩, sub1 ⟨k4, j4⟩, sub1 ⟨k8, j8⟩]
  exact ⟨by simp, near_dia l0 u0 B0, near_off l1 u1 B1.2, near_off l2 u2 B2.1, near_off l3 u3 B1.1, near_dia l4 u4 B4, near_off l5 u5 B5.2, near_off l6 u6 B2.2, near_off l7 u7 B5.1, near_dia l8 u8 B8⟩

theorem near_mul {m k R T : Int} (h : Near m R) (h' : Near k T) : -316912650057057350374175801344 - 18446744073709551616 ≤ 18446744073709551616 * (m * k) - R * T ∧ 18446744073709551616 * (m * k) - R * T ≤ 316912650057057350374175801344 + 18446744073709551616 := by
  obtain ⟨a, b, _⟩ := h
  obtain ⟨c, d, _⟩ := h'
  generalize hδ : 4294967296 * m - R = δ at *
  generalize hτ : 4294967296 * k - T = τ at *
  have e : 18446744073709551616 * (m * k) = R * T + R * τ + δ * T + δ * τ := by
    have h1 : 4294967296 * m = R + δ := by omega
    have h2 : 4294967296 * k = T + τ := by omega
    have h3 : 18446744073709551616 * (m * k) = (4294967296 * m) * (4294967296 * k) := by grind
    rw [h3, h1, h2]; grind
  have k1 := mul_in b c
  have k2 := mul_in a d
  have k3 := mul_in a c
  omega

/-- Two columns: their product is D, but for 85 in steps. -/
theorem gram {m0 m1 m2 k0 k1 k2 R0 R1 R2 T0 T1 T2 D : Int} (h0 : Near m0 R0) (h1 : Near m1 R1) (h2 : Near m2 R2) (g0 : Near k0 T0) (g1 : Near k1 T1) (g2 : Near k2 T2)
    (hz : -5704427701027032306735164424192 ≤ R0 * T0 + R1 * T1 + R2 * T2 - 18446744073709551616 * D ∧ R0 * T0 + R1 * T1 + R2 * T2 - 18446744073709551616 * D ≤ 5704427701027032306735164424192) :
    -365072220160 ≤ m0 * k0 + m1 * k1 + m2 * k2 - D ∧ m0 * k0 + m1 * k1 + m2 * k2 - D ≤ 365072220160 := by
  have a0 := near_mul h0 g0
  have a1 := near_mul h1 g1
  have a2 := near_mul h2 g2
  omega
end WM
end Go.Proofs.Ytchnfokahakgbaa
