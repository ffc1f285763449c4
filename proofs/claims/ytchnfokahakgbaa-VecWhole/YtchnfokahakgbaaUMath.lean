/- Unit vectors, in plain numbers. -/
import Derived.Test.YtchnfokahakgbaaCross
namespace Go.Proofs.Ytchnfokahakgbaa
open Go.RowKit Fx

theorem dot_comm3 (x0 x1 x2 y0 y1 y2 : Int) : dot [x0, x1, x2] [y0, y1, y2] = dot [y0, y1, y2] [x0, x1, x2] := by
  unfold dot
  have e : prods [x0, x1, x2] [y0, y1, y2] = prods [y0, y1, y2] [x0, x1, x2] := by simp only [prods]; rw [Int.mul_comm x0, Int.mul_comm x1, Int.mul_comm x2]
  rw [e, Bool.or_comm]
  simp
theorem nothing {f g f' g' : Bool} {a0 a1 a2 y0 y1 y2 z0 z1 z2 : Int} (h : Step3 f (sub 0 a0) (sub 0 a1) (sub 0 a2) y0 y1 y2 g) (h' : Step3 f' (add a0 y0) (add a1 y1) (add a2 y2) z0 z1 z2 g') : z0 = 0 ∧ z1 = 0 ∧ z2 = 0 := by
  have key : ((add a0 y0).isNone || (add a1 y1).isNone || (add a2 y2).isNone) = true ∨ (y0 = -a0 ∧ y1 = -a1 ∧ y2 = -a2) := by
    rcases neg_is a0 with ⟨_, g0, _⟩ | ⟨e0, _, _⟩
    · left; have : (add a0 y0) = none := by simp [add, g0]
      rw [this]; simp
    · rcases neg_is a1 with ⟨_, g1, _⟩ | ⟨e1, _, _⟩
      · left; have : (add a1 y1) = none := by simp [add, g1]
        rw [this]; simp
      · rcases neg_is a2 with ⟨_, g2, _⟩ | ⟨e2, _, _⟩
        · left; have : (add a2 y2) = none := by simp [add, g2]
          rw [this]; simp
        · right
          obtain ⟨h1, h2, h3, _⟩ := h
          rw [e0, e1, e2] at h1 h2 h3
          exact ⟨h1, h2, h3⟩
  rcases key with k | ⟨rfl, rfl, rfl⟩
  · obtain ⟨h1, h2, h3, _⟩ := step3_bad h' k
    exact ⟨h1, h2, h3⟩
  · obtain ⟨h1, h2, h3, _⟩ := h'
    have z : ∀ x : Int, (add x (-x)).getD 0 = 0 := fun x => by
      unfold add; split
      · rfl
      · have e : x + -x = 0 := by omega
        rw [e]; rfl
    rw [z] at h1 h2 h3
    refine ⟨?_, ?_, ?_⟩
    · rw [h1]; cases ((add a0 (-a0)).isNone || (add a1 (-a1)).isNone || (add a2 (-a2)).isNone) <;> rfl
    · rw [h2]; cases ((add a0 (-a0)).isNone || (add a1 (-a1)).isNone || (add a2 (-a2)).isNone) <;> rfl
    · rw [h3]; cases ((add a0 (-a0)).isNone || (add a1 (-a1)).isNone || (add a2 (-a2)).isNone) <;> rfl

theorem norm3_some {x y z s : Int} (h : norm [x, y, z] = some s) : great x = false ∧ great y = false ∧ great z = false ∧ great s = false ∧ 0 ≤ s ∧ s * s ≤ x * x + (y * y + z * z) ∧ x * x + (y * y + z * z) < (s + 1) * (s + 1) := by
  unfold norm at h
  split at h
  · simp at h
  · split at h
    · simp at h
    · rename_i ha
      unfold told at h
      split at h
      · simp at h
      · rename_i hg
        have hg' : great _ = false := Bool.eq_false_iff.2 hg
        simp only [Option.some.injEq] at h
        rw [h] at hg'
        obtain ⟨p, q⟩ := isq_is (prods [x, y, z] [x, y, z]).toNat
        have h0 := prods_self [x, y, z]
        generalize hr : isq (prods [x, y, z] [x, y, z]).toNat = r at *
        have p' := Int.ofNat_le.2 p
        have q' := Int.ofNat_lt.2 q
        rw [Int.toNat_of_nonneg h0, Int.natCast_mul] at p' q'
        rw [Int.natCast_add] at q'
        simp only [prods, Int.add_zero] at p' q'
        simp only [List.any_cons, List.any_nil, Bool.or_false, Bool.not_eq_true, Bool.or_eq_false_iff] at ha
        subst h
        exact ⟨ha.1, ha.2.1, ha.2.2, hg', by omega, p', q'⟩

/-- One part of a unit vector. -/
theorem part {x n u : Int} (hn : 4294967296 ≤ n) (hx : -n ≤ x ∧ x ≤ n) (hu : u = x * 4294967296 / n) : -4294967296 ≤ u ∧ u ≤ 4294967296 ∧ n * n * (u * u) ≤ 18446744073709551616 * (x * x) + 8589934592 * (n * n) + n * n ∧ 18446744073709551616 * (x * x) ≤ n * n * (u * u) + 8589934592 * (n * n) := by
  have hd := div_is (x * 4294967296) n (by omega)
  rw [← hu] at hd
  obtain ⟨e, he⟩ : ∃ e, e = x * 4294967296 - u * n := ⟨_, rfl⟩
  have e0 : 0 ≤ e := by omega
  have e1 : e < n := by have := hd.2; rw [Int.add_mul] at this; omega
  have un : u * n = x * 4294967296 - e := by omega
  have sq : n * n * (u * u) = 18446744073709551616 * (x * x) - 8589934592 * (x * e) + e * e := by
    have : n * n * (u * u) = (u * n) * (u * n) := by grind
    rw [this, un]; grind
  have b1 : x * e ≤ n * n := by
    have h1 : x * e ≤ n * e := Int.mul_le_mul_of_nonneg_right hx.2 e0
    have h2 : n * e ≤ n * n := Int.mul_le_mul_of_nonneg_left (by omega) (by omega)
    omega
  have b2 : -(n * n) ≤ x * e := by
    have h1 : (-n) * e ≤ x * e := Int.mul_le_mul_of_nonneg_right hx.1 e0
    have h2 : n * e ≤ n * n := Int.mul_le_mul_of_nonneg_left (by omega) (by omega)
    rw [Int.neg_mul] at h1
    omega
  have b3 : e * e ≤ n * n := Int.mul_le_mul (by omega) (by omega) e0 (by omega)
  have b4 : 0 ≤ e * e := Int.mul_nonneg e0 e0
  refine ⟨?_, ?_, by omega, by omega⟩
  · apply Int.not_lt.1
    intro hlt
    have := Int.mul_le_mul_of_nonneg_right (show u + 1 ≤ -4294967296 by omega) (show 0 ≤ n by omega)
    have := hd.2
    omega
  · apply Int.not_lt.1
    intro hlt
    have := Int.mul_le_mul_of_nonneg_right (show 4294967297 ≤ u by omega) (show 0 ≤ n by omega)
    have := hd.1
    omega
theorem in_square {x n R : Int} (hR : 0 ≤ R) (hn : 0 ≤ n) (h : x * x + R < (n + 1) * (n + 1)) : -n ≤ x ∧ x ≤ n := by
  constructor
  · apply Int.not_lt.1
    intro hlt
    have := Int.mul_le_mul (show n + 1 ≤ -x by omega) (show n + 1 ≤ -x by omega) (by omega) (by omega)
    rw [Int.neg_mul_neg] at this
    omega
  · apply Int.not_lt.1
    intro hlt
    have := Int.mul_le_mul (show n + 1 ≤ x by omega) (show n + 1 ≤ x by omega) (by omega) (by omega)
    omega
theorem sq_nonneg (x : Int) : 0 ≤ x * x := by
  rcases Int.le_total 0 x with g | g
  · exact Int.mul_nonneg g g
  · exact Int.mul_nonneg_of_nonpos_of_nonpos g g

/-- A unit vector is one long, but for 4. -/
theorem unit_long {x y z n : Int} (h : norm [x, y, z] = some n) (hn : 4294967296 ≤ n) : ∃ u v s l, ratio x 4294967296 n = some u ∧ ratio y 4294967296 n = some v ∧ ratio z 4294967296 n = some s ∧ norm [u, v, s] = some l ∧ 4294967292 ≤ l ∧ l ≤ 4294967300 := by
  obtain ⟨gx, gy, gz, gn, n0, h1, h2⟩ := norm3_some h
  have px := sq_nonneg x
  have py := sq_nonneg y
  have pz := sq_nonneg z
  have ix := in_square (x := x) (R := y * y + z * z) (by omega) n0 (by omega)
  have iy := in_square (x := y) (R := x * x + z * z) (by omega) n0 (by omega)
  have iz := in_square (x := z) (R := x * x + y * y) (by omega) n0 (by omega)
  have kx := part (u := x * 4294967296 / n) hn ix rfl
  have ky := part (u := y * 4294967296 / n) hn iy rfl
  have kz := part (u := z * 4294967296 / n) hn iz rfl
  have one : ∀ t : Int, great t = false → -4294967296 ≤ t * 4294967296 / n ∧ t * 4294967296 / n ≤ 4294967296 → ratio t 4294967296 n = some (t * 4294967296 / n) := by
    intro t gt hb
    have g1 : great 4294967296 = false := by decide
    have g2 : great (t * 4294967296 / n) = false := (not_great _).2 ⟨Int.le_trans (by omega) hb.1, Int.le_trans hb.2 (by omega)⟩
    unfold ratio fl
    rw [if_neg (by omega : ¬ n = 0), gt, g1, gn, if_neg (by omega : ¬ n < 0)]
    simp [told, g2]
  obtain ⟨u, hu⟩ : ∃ u, u = x * 4294967296 / n := ⟨_, rfl⟩
  obtain ⟨v, hv⟩ : ∃ v, v = y * 4294967296 / n := ⟨_, rfl⟩
  obtain ⟨s, hs⟩ : ∃ s, s = z * 4294967296 / n := ⟨_, rfl⟩
  have r0 := one x gx ⟨kx.1, kx.2.1⟩
  have r1 := one y gy ⟨ky.1, ky.2.1⟩
  have r2 := one z gz ⟨kz.1, kz.2.1⟩
  rw [← hu] at kx r0
  rw [← hv] at ky r1
  rw [← hs] at kz r2
  clear hu hv hs one
  have gu : great u = false := (not_great _).2 (by omega)
  have gv : great v = false := (not_great _).2 (by omega)
  have gs : great s = false := (not_great _).2 (by omega)
  obtain ⟨S, hS⟩ : ∃ S, S = u * u + (v * v + s * s) := ⟨_, rfl⟩
  have pu := sq_nonneg u
  have pv := sq_nonneg v
  have ps := sq_nonneg s
  have S0 : 0 ≤ S := by omega
  have nn : 4294967296 * n ≤ n * n := Int.mul_le_mul_of_nonneg_right hn n0
  have np : 0 < n * n := Int.mul_pos (by omega) (by omega)
  have hnS : n * n * S = n * n * (u * u) + (n * n * (v * v) + n * n * (s * s)) := by rw [hS, Int.mul_add, Int.mul_add]
  have h3 : (n + 1) * (n + 1) = n * n + 2 * n + 1 := by grind
  rw [h3] at h2
  have up : n * n * S ≤ n * n * 18446744108069289987 := by omega
  have lo : n * n * 18446744047939747840 ≤ n * n * S := by omega
  have up' : S ≤ 18446744108069289987 := Int.le_of_mul_le_mul_left up np
  have lo' : 18446744047939747840 ≤ S := Int.le_of_mul_le_mul_left lo np
  have hpr : prods [u, v, s] [u, v, s] = S := by simp only [prods, Int.add_zero, hS]
  obtain ⟨p, q⟩ := isq_is S.toNat
  obtain ⟨l, hl⟩ : ∃ l : Nat, l = isq S.toNat := ⟨_, rfl⟩
  rw [← hl] at p q
  have p' := Int.ofNat_le.2 p
  have q' := Int.ofNat_lt.2 q
  rw [Int.toNat_of_nonneg S0, Int.natCast_mul] at p' q'
  rw [Int.natCast_add] at q'
  have l1 : (4294967292 : Int) ≤ l := by
    apply Int.not_lt.1
    intro hlt
    have := Int.mul_le_mul (show (l : Int) + ((1 : Nat) : Int) ≤ 4294967292 by omega) (show (l : Int) + ((1 : Nat) : Int) ≤ 4294967292 by omega) (by omega) (by omega)
    omega
  have l2 : (l : Int) ≤ 4294967300 := by
    apply Int.not_lt.1
    intro hlt
    have := Int.mul_le_mul (show (4294967301 : Int) ≤ l by omega) (show (4294967301 : Int) ≤ l by omega) (by omega) (by omega)
    omega
  refine ⟨u, v, s, l, r0, r1, r2, ?_, l1, l2⟩
  have gl : great (l : Int) = false := (not_great _).2 (by omega)
  unfold norm
  rw [if_neg (by simp), hpr, ← hl]
  simp [gu, gv, gs, told, gl]

end Go.Proofs.Ytchnfokahakgbaa
