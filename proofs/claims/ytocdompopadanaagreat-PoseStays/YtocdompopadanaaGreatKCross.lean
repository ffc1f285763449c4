/- Package vec's cross product. -/
import Derived.Test.YtocdompopadanaaGreatKVec1
import Derived.Test.YtocdompopadanaaGreatKEach4
import Derived.Test.YtocdompopadanaaGreatKRows3
namespace Go.Proofs.YtocdompopadanaaGreat
open Go.RowKit Fx
set_option linter.unusedVariables false

/-- What a minus is. -/
theorem neg_is (y : Int) : ((sub 0 y).isNone = true ∧ great y = true ∧ great (-y) = true) ∨ ((sub 0 y) = some (-y) ∧ great y = false ∧ great (-y) = false) := by
  cases h : great y
  · have h' := (not_great y).1 h
    have g : great (-y) = false := (not_great _).2 (by omega)
    refine Or.inr ⟨?_, rfl, g⟩
    have z : great 0 = false := by decide
    have e : (0 : Int) - y = -y := by omega
    simp [sub, h, z, told, e, g]
  · have h' := (great_iff y).1 h
    refine Or.inl ⟨?_, rfl, (great_iff _).2 (by omega)⟩
    simp [sub, h]
theorem dot_great {l m : List Int} (h : m.any great = true) : (dot l m).isNone = true := by
  unfold dot; split
  · rfl
  · split
    · rfl
    · rw [h]; simp
theorem cross_step {f g0 : Bool} {x0 x1 x2 y0 y1 y2 : Int} (hg : g0 = (false || ((sub 0 y0).isNone || (sub 0 y1).isNone || (sub 0 y2).isNone))) {bd : Bool}
    (hb : bd = (g0 || ((dot [x1, x2] [y2, (sub 0 y1).getD 0]).isNone || ((dot [x2, x0] [y0, (sub 0 y2).getD 0]).isNone || (dot [x0, x1] [y1, (sub 0 y0).getD 0]).isNone)))) :
    Step3 f (dot [x1, x2] [y2, -y1]) (dot [x2, x0] [y0, -y2]) (dot [x0, x1] [y1, -y0]) (cond bd 0 ((dot [x1, x2] [y2, (sub 0 y1).getD 0]).getD 0)) (cond bd 0 ((dot [x2, x0] [y0, (sub 0 y2).getD 0]).getD 0)) (cond bd 0 ((dot [x0, x1] [y1, (sub 0 y0).getD 0]).getD 0)) (f || bd) := by
  have key : (bd = true ∧ ((dot [x1, x2] [y2, -y1]).isNone || (dot [x2, x0] [y0, -y2]).isNone || (dot [x0, x1] [y1, -y0]).isNone) = true) ∨ (sub 0 y0 = some (-y0) ∧ sub 0 y1 = some (-y1) ∧ sub 0 y2 = some (-y2)) := by
    rcases neg_is y0 with ⟨a1, a2, a3⟩ | ⟨a1, _, _⟩
    · left; exact ⟨by rw [hb, hg, a1]; simp, by rw [dot_great (l := [x0, x1]) (m := [y1, -y0]) (by simp [a3])]; simp⟩
    · rcases neg_is y1 with ⟨b1, b2, b3⟩ | ⟨b1, _, _⟩
      · left; exact ⟨by rw [hb, hg, b1]; simp, by rw [dot_great (l := [x1, x2]) (m := [y2, -y1]) (by simp [b3])]; simp⟩
      · rcases neg_is y2 with ⟨c1, c2, c3⟩ | ⟨c1, _, _⟩
        · left; exact ⟨by rw [hb, hg, c1]; simp, by rw [dot_great (l := [x2, x0]) (m := [y0, -y2]) (by simp [c3])]; simp⟩
        · right; exact ⟨a1, b1, c1⟩
  rcases key with ⟨h1, h2⟩ | ⟨h1, h2, h3⟩
  · rw [h1]
    unfold Step3
    rw [h2]
    exact ⟨rfl, rfl, rfl, rfl⟩
  · rw [h1, h2, h3] at hb hg
    rw [h1, h2, h3]
    have hg' : g0 = false := by rw [hg]; rfl
    rw [hg', Bool.false_or] at hb
    simp only [Option.getD_some] at hb ⊢
    unfold Step3
    rw [Bool.or_assoc, ← hb]
    exact ⟨rfl, rfl, rfl, rfl⟩

def cross_bad (b off : Nat) (f g0 : Bool) (pa pb pr po pm : Nat) (x0 x1 x2 y0 y1 y2 : Int) (W U : World) : Bool := g0 || ([(11, (dot [x1, x2] [y2, (sub 0 y1).getD 0]).isNone), (22, (dot [x2, x0] [y0, (sub 0 y2).getD 0]).isNone), (33, (dot [x0, x1] [y1, (sub 0 y0).getD 0]).isNone)] : List (Nat × Bool)).any (·.2)

def cross_sh (b off : Nat) (f g0 : Bool) (pa pb pr po pm : Nat) (x0 x1 x2 y0 y1 y2 : Int) (W U : World) : Nat → Shape
  | 0 => .is (.pointer (some ⟨b, off, none⟩))
  | 1 => .is (.pointer (some ⟨pa, 1, none⟩))
  | 2 => .is (.int .i64 (x1))
  | 3 => .is (.pointer (some ⟨pa, 2, none⟩))
  | 4 => .is (.int .i64 (x2))
  | 5 => .row 2
  | 6 => .is (.pointer (some ⟨pb, 2, none⟩))
  | 7 => .is (.int .i64 (y2))
  | 8 => .is (.pointer (some ⟨pm, 1, none⟩))
  | 9 => .is (.int .i64 ((sub 0 y1).getD 0))
  | 10 => .row 2
  | 11 => .is (.int .i64 ((dot [x1, x2] [y2, (sub 0 y1).getD 0]).getD 0))
  | 12 => .is (.pointer (some ⟨pa, 2, none⟩))
  | 13 => .is (.int .i64 (x2))
  | 14 => .is (.pointer (some ⟨pa, 0, none⟩))
  | 15 => .is (.int .i64 (x0))
  | 16 => .row 2
  | 17 => .is (.pointer (some ⟨pb, 0, none⟩))
  | 18 => .is (.int .i64 (y0))
  | 19 => .is (.pointer (some ⟨pm, 2, none⟩))
  | 20 => .is (.int .i64 ((sub 0 y2).getD 0))
  | 21 => .row 2
  | 22 => .is (.int .i64 ((dot [x2, x0] [y0, (sub 0 y2).getD 0]).getD 0))
  | 23 => .is (.pointer (some ⟨pa, 0, none⟩))
  | 24 => .is (.int .i64 (x0))
  | 25 => .is (.pointer (some ⟨pa, 1, none⟩))
  | 26 => .is (.int .i64 (x1))
  | 27 => .row 2
  | 28 => .is (.pointer (some ⟨pb, 1, none⟩))
  | 29 => .is (.int .i64 (y1))
  | 30 => .is (.pointer (some ⟨pm, 0, none⟩))
  | 31 => .is (.int .i64 ((sub 0 y0).getD 0))
  | 32 => .row 2
  | 33 => .is (.int .i64 ((dot [x0, x1] [y1, (sub 0 y0).getD 0]).getD 0))
  | 34 => .is (.agg #[.int .i64 ((dot [x1, x2] [y2, (sub 0 y1).getD 0]).getD 0), .int .i64 ((dot [x2, x0] [y0, (sub 0 y2).getD 0]).getD 0), .int .i64 ((dot [x0, x1] [y1, (sub 0 y0).getD 0]).getD 0)])
  | 35 => .is (.agg #[.int .i64 (cond (cross_bad b off f g0 pa pb pr po pm x0 x1 x2 y0 y1 y2 W U) 0 ((dot [x1, x2] [y2, (sub 0 y1).getD 0]).getD 0)), .int .i64 (cond (cross_bad b off f g0 pa pb pr po pm x0 x1 x2 y0 y1 y2 W U) 0 ((dot [x2, x0] [y0, (sub 0 y2).getD 0]).getD 0)), .int .i64 (cond (cross_bad b off f g0 pa pb pr po pm x0 x1 x2 y0 y1 y2 W U) 0 ((dot [x0, x1] [y1, (sub 0 y0).getD 0]).getD 0))])
  | 36 => .ptr
  | _ => .ptr

def cross_plan (b off : Nat) (f g0 : Bool) (pa pb pr po pm : Nat) (x0 x1 x2 y0 y1 y2 : Int) (W U : World) : Plan where
  W := W
  N := U.heap.size
  p := ⟨b, off, none⟩
  fl := ⟨po, 0, none⟩
  g0 := g0
  bad := cross_bad b off f g0 pa pb pr po pm x0 x1 x2 y0 y1 y2 W U
  f := f
  calls := [(11, (dot [x1, x2] [y2, (sub 0 y1).getD 0]).isNone), (22, (dot [x2, x0] [y0, (sub 0 y2).getD 0]).isNone), (33, (dot [x0, x1] [y1, (sub 0 y0).getD 0]).isNone)]
  tl := 35
  st := 36
  r := pr
  res := [.int .i64 (cond (cross_bad b off f g0 pa pb pr po pm x0 x1 x2 y0 y1 y2 W U) 0 ((dot [x1, x2] [y2, (sub 0 y1).getD 0]).getD 0)), .int .i64 (cond (cross_bad b off f g0 pa pb pr po pm x0 x1 x2 y0 y1 y2 W U) 0 ((dot [x2, x0] [y0, (sub 0 y2).getD 0]).getD 0)), .int .i64 (cond (cross_bad b off f g0 pa pb pr po pm x0 x1 x2 y0 y1 y2 W U) 0 ((dot [x0, x1] [y1, (sub 0 y0).getD 0]).getD 0))]
  fixed := [(⟨pa, 0, none⟩, .int .i64 (x0)),
    (⟨pa, 1, none⟩, .int .i64 (x1)),
    (⟨pa, 2, none⟩, .int .i64 (x2)),
    (⟨pb, 0, none⟩, .int .i64 (y0)),
    (⟨pb, 1, none⟩, .int .i64 (y1)),
    (⟨pb, 2, none⟩, .int .i64 (y2)),
    (⟨pm, 0, none⟩, .int .i64 ((sub 0 y0).getD 0)),
    (⟨pm, 1, none⟩, .int .i64 ((sub 0 y1).getD 0)),
    (⟨pm, 2, none⟩, .int .i64 ((sub 0 y2).getD 0))]
  made := [⟨5, 5, [.int .i64 (x1), .int .i64 (x2)]⟩, ⟨10, 10, [.int .i64 (y2), .int .i64 ((sub 0 y1).getD 0)]⟩, ⟨16, 16, [.int .i64 (x2), .int .i64 (x0)]⟩, ⟨21, 21, [.int .i64 (y0), .int .i64 ((sub 0 y2).getD 0)]⟩, ⟨27, 27, [.int .i64 (x0), .int .i64 (x1)]⟩, ⟨32, 32, [.int .i64 (y1), .int .i64 ((sub 0 y0).getD 0)]⟩]

theorem cross_cn (b off : Nat) (f g0 : Bool) (pa pb pr po pm : Nat) (x0 x1 x2 y0 y1 y2 : Int) (W U : World) : ((cross_plan b off f g0 pa pb pr po pm x0 x1 x2 y0 y1 y2 W U).calls.map (·.1)).Nodup := of_decide_eq_true rfl
theorem cross_mn (b off : Nat) (f g0 : Bool) (pa pb pr po pm : Nat) (x0 x1 x2 y0 y1 y2 : Int) (W U : World) : ((cross_plan b off f g0 pa pb pr po pm x0 x1 x2 y0 y1 y2 W U).made.map (·.i)).Nodup := of_decide_eq_true rfl
theorem cross_bads (b off : Nat) (f g0 : Bool) (pa pb pr po pm : Nat) (x0 x1 x2 y0 y1 y2 : Int) (W U : World) : ((cross_plan b off f g0 pa pb pr po pm x0 x1 x2 y0 y1 y2 W U).bad = true → (cross_plan b off f g0 pa pb pr po pm x0 x1 x2 y0 y1 y2 W U).g0 = true ∨ ∃ c ∈ (cross_plan b off f g0 pa pb pr po pm x0 x1 x2 y0 y1 y2 W U).calls, c.2 = true) ∧ ∀ c ∈ (cross_plan b off f g0 pa pb pr po pm x0 x1 x2 y0 y1 y2 W U).calls, c.2 = true → (cross_plan b off f g0 pa pb pr po pm x0 x1 x2 y0 y1 y2 W U).bad = true :=
  bad_any_of _ rfl

end Go.Proofs.YtocdompopadanaaGreat
/- Unit vectors, in plain numbers. -/
namespace Go.Proofs.YtocdompopadanaaGreat
open Go.RowKit Fx

theorem dot_comm3 (x0 x1 x2 y0 y1 y2 : Int) : dot [x0, x1, x2] [y0, y1, y2] = dot [y0, y1, y2] [x0, x1, x2] := by
  unfold dot
  have e : prods [x0, x1, x2] [y0, y1, y2] = prods [y0, y1, y2] [x0, x1, x2] := by simp only [prods]; rw [Int.mul_comm x0, Int.mul_comm x1, Int.mul_comm x2]
  rw [e, Bool.or_comm]
  simp
theorem nothing {f g f' g' : Bool} {a0 a1 a2 y0 y1 y2 z0 z1 z2 : Int} (h : Step3 f (sub 0 a0) (sub 0 a1) (sub 0 a2) y0 y1 y2 g) (h' : Step3 f' (add a0 y0) (add a1 y1) (add a2 y2) z0 z1 z2 g') : z0 = 0 ∧ z1 = 0 ∧ z2 = 0 := by
  have key : ((add a0 y0).isNone || (add a1 y1).isNone || (add a2 y2).isNone) = true ∨ (y0 = -a0 ∧ y1 = -a1 ∧ y2 = -a2) := by
    rcases neg_is a0 with ⟨_, g0, _⟩ | ⟨e0, _, _⟩
    · left; have : (add a0 y0) = none := by simp [add, g0]
      rw [this]; simp
    · rcases neg_is a1 with ⟨_, g1, _⟩ | ⟨e1, _, _⟩
      · left; have : (add a1 y1) = none := by simp [add, g1]
        rw [this]; simp
      · rcases neg_is a2 with ⟨_, g2, _⟩ | ⟨e2, _, _⟩
        · left; have : (add a2 y2) = none := by simp [add, g2]
          rw [this]; simp
        · right
          obtain ⟨h1, h2, h3, _⟩ := h
          rw [e0, e1, e2] at h1 h2 h3
          exact ⟨h1, h2, h3⟩
  rcases key with k | ⟨rfl, rfl, rfl⟩
  · obtain ⟨h1, h2, h3, _⟩ := step3_bad h' k
    exact ⟨h1, h2, h3⟩
  · obtain ⟨h1, h2, h3, _⟩ := h'
    have z : ∀ x : Int, (add x (-x)).getD 0 = 0 := fun x => by
      unfold add; split
      · rfl
      · have e : x + -x = 0 := by omega
        rw [e]; rfl
    rw [z] at h1 h2 h3
    refine ⟨?_, ?_, ?_⟩
    · rw [h1]; cases ((add a0 (-a0)).isNone || (add a1 (-a1)).isNone || (add a2 (-a2)).isNone) <;> rfl
    · rw [h2]; cases ((add a0 (-a0)).isNone || (add a1 (-a1)).isNone || (add a2 (-a2)).isNone) <;> rfl
    · rw [h3]; cases ((add a0 (-a0)).isNone || (add a1 (-a1)).isNone || (add a2 (-a2)).isNone) <;> rfl

theorem norm3_some {x y z s : Int} (h : norm [x, y, z] = some s) : great x = false ∧ great y = false ∧ great z = false ∧ great s = false ∧ 0 ≤ s ∧ s * s ≤ x * x + (y * y + z * z) ∧ x * x + (y * y + z * z) < (s + 1) * (s + 1) := by
  unfold norm at h
  split at h
  · simp at h
  · split at h
    · simp at h
    · rename_i ha
      unfold told at h
      split at h
      · simp at h
      · rename_i hg
        have hg' : great _ = false := Bool.eq_false_iff.2 hg
        simp only [Option.some.injEq] at h
        rw [h] at hg'
        obtain ⟨p, q⟩ := isq_is (prods [x, y, z] [x, y, z]).toNat
        have h0 := prods_self [x, y, z]
        generalize hr : isq (prods [x, y, z] [x, y, z]).toNat = r at *
        have p' := Int.ofNat_le.2 p
        have q' := Int.ofNat_lt.2 q
        rw [Int.toNat_of_nonneg h0, Int.natCast_mul] at p' q'
        rw [Int.natCast_add] at q'
        simp only [prods, Int.add_zero] at p' q'
        simp only [List.any_cons, List.any_nil, Bool.or_false, Bool.not_eq_true, Bool.or_eq_false_iff] at ha
        subst h
        exact ⟨ha.1, ha.2.1, ha.2.2, hg', by omega, p', q'⟩

/-- One part of a unit vector. -/
theorem part {x n u : Int} (hn : 4294967296 ≤ n) (hx : -n ≤ x ∧ x ≤ n) (hu : u = x * 4294967296 / n) : -4294967296 ≤ u ∧ u ≤ 4294967296 ∧ n * n * (u * u) ≤ 18446744073709551616 * (x * x) + 8589934592 * (n * n) + n * n ∧ 18446744073709551616 * (x * x) ≤ n * n * (u * u) + 8589934592 * (n * n) := by
  have hd := div_is (x * 4294967296) n (by omega)
  rw [← hu] at hd
  obtain ⟨e, he⟩ : ∃ e, e = x * 4294967296 - u * n := ⟨_, rfl⟩
  have e0 : 0 ≤ e := by omega
  have e1 : e < n := by have := hd.2; rw [Int.add_mul] at this; omega
  have un : u * n = x * 4294967296 - e := by omega
  have sq : n * n * (u * u) = 18446744073709551616 * (x * x) - 8589934592 * (x * e) + e * e := by
    have : n * n * (u * u) = (u * n) * (u * n) := by grind
    rw [this, un]; grind
  have b1 : x * e ≤ n * n := by
    have h1 : x * e ≤ n * e := Int.mul_le_mul_of_nonneg_right hx.2 e0
    have h2 : n * e ≤ n * n := Int.mul_le_mul_of_nonneg_left (by omega) (by omega)
    omega
  have b2 : -(n * n) ≤ x * e := by
    have h1 : (-n) * e ≤ x * e := Int.mul_le_mul_of_nonneg_right hx.1 e0
    have h2 : n * e ≤ n * n := Int.mul_le_mul_of_nonneg_left (by omega) (by omega)
    rw [Int.neg_mul] at h1
    omega
  have b3 : e * e ≤ n * n := Int.mul_le_mul (by omega) (by omega) e0 (by omega)
  have b4 : 0 ≤ e * e := Int.mul_nonneg e0 e0
  refine ⟨?_, ?_, by omega, by omega⟩
  · apply Int.not_lt.1
    intro hlt
    have := Int.mul_le_mul_of_nonneg_right (show u + 1 ≤ -4294967296 by omega) (show 0 ≤ n by omega)
    have := hd.2
    omega
  · apply Int.not_lt.1
    intro hlt
    have := Int.mul_le_mul_of_nonneg_right (show 4294967297 ≤ u by omega) (show 0 ≤ n by omega)
    have := hd.1
    omega
theorem in_square {x n R : Int} (hR : 0 ≤ R) (hn : 0 ≤ n) (h : x * x + R < (n + 1) * (n + 1)) : -n ≤ x ∧ x ≤ n := by
  constructor
  · apply Int.not_lt.1
    intro hlt
    have := Int.mul_le_mul (show n + 1 ≤ -x by omega) (show n + 1 ≤ -x by omega) (by omega) (by omega)
    rw [Int.neg_mul_neg] at this
    omega
  · apply Int.not_lt.1
    intro hlt
    have := Int.mul_le_mul (show n + 1 ≤ x by omega) (show n + 1 ≤ x by omega) (by omega) (by omega)
    omega
theorem sq_nonneg (x : Int) : 0 ≤ x * x := by
  rcases Int.le_total 0 x with g | g
  · exact Int.mul_nonneg g g
  · exact Int.mul_nonneg_of_nonpos_of_nonpos g g

/-- A unit vector is one long, but for 4. -/
theorem unit_long {x y z n : Int} (h : norm [x, y, z] = some n) (hn : 4294967296 ≤ n) : ∃ u v s l, ratio x 4294967296 n = some u ∧ ratio y 4294967296 n = some v ∧ ratio z 4294967296 n = some s ∧ norm [u, v, s] = some l ∧ 4294967292 ≤ l ∧ l ≤ 4294967300 := by
  obtain ⟨gx, gy, gz, gn, n0, h1, h2⟩ := norm3_some h
  have px := sq_nonneg x
  have py := sq_nonneg y
  have pz := sq_nonneg z
  have ix := in_square (x := x) (R := y * y + z * z) (by omega) n0 (by omega)
  have iy := in_square (x := y) (R := x * x + z * z) (by omega) n0 (by omega)
  have iz := in_square (x := z) (R := x * x + y * y) (by omega) n0 (by omega)
  have kx := part (u := x * 4294967296 / n) hn ix rfl
  have ky := part (u := y * 4294967296 / n) hn iy rfl
  have kz := part (u := z * 4294967296 / n) hn iz rfl
  have one : ∀ t : Int, great t = false → -4294967296 ≤ t * 4294967296 / n ∧ t * 4294967296 / n ≤ 4294967296 → ratio t 4294967296 n = some (t * 4294967296 / n) := by
    intro t gt hb
    have g1 : great 4294967296 = false := by decide
    have g2 : great (t * 4294967296 / n) = false := (not_great _).2 ⟨Int.le_trans (by omega) hb.1, Int.le_trans hb.2 (by omega)⟩
    unfold ratio fl
    rw [if_neg (by omega : ¬ n = 0), gt, g1, gn, if_neg (by omega : ¬ n < 0)]
    simp [told, g2]
  obtain ⟨u, hu⟩ : ∃ u, u = x * 4294967296 / n := ⟨_, rfl⟩
  obtain ⟨v, hv⟩ : ∃ v, v = y * 4294967296 / n := ⟨_, rfl⟩
  obtain ⟨s, hs⟩ : ∃ s, s = z * 4294967296 / n := ⟨_, rfl⟩
  have r0 := one x gx ⟨kx.1, kx.2.1⟩
  have r1 := one y gy ⟨ky.1, ky.2.1⟩
  have r2 := one z gz ⟨kz.1, kz.2.1⟩
  rw [← hu] at kx r0
  rw [← hv] at ky r1
  rw [← hs] at kz r2
  clear hu hv hs one
  have gu : great u = false := (not_great _).2 (by omega)
  have gv : great v = false := (not_great _).2 (by omega)
  have gs : great s = false := (not_great _).2 (by omega)
  obtain ⟨S, hS⟩ : ∃ S, S = u * u + (v * v + s * s) := ⟨_, rfl⟩
  have pu := sq_nonneg u
  have pv := sq_nonneg v
  have ps := sq_nonneg s
  have S0 : 0 ≤ S := by omega
  have nn : 4294967296 * n ≤ n * n := Int.mul_le_mul_of_nonneg_right hn n0
  have np : 0 < n * n := Int.mul_pos (by omega) (by omega)
  have hnS : n * n * S = n * n * (u * u) + (n * n * (v * v) + n * n * (s * s)) := by rw [hS, Int.mul_add, Int.mul_add]
  have h3 : (n + 1) * (n + 1) = n * n + 2 * n + 1 := by grind
  rw [h3] at h2
  have up : n * n * S ≤ n * n * 18446744108069289987 := by omega
  have lo : n * n * 18446744047939747840 ≤ n * n * S := by omega
  have up' : S ≤ 18446744108069289987 := Int.le_of_mul_le_mul_left up np
  have lo' : 18446744047939747840 ≤ S := Int.le_of_mul_le_mul_left lo np
  have hpr : prods [u, v, s] [u, v, s] = S := by simp only [prods, Int.add_zero, hS]
  obtain ⟨p, q⟩ := isq_is S.toNat
  obtain ⟨l, hl⟩ : ∃ l : Nat, l = isq S.toNat := ⟨_, rfl⟩
  rw [← hl] at p q
  have p' := Int.ofNat_le.2 p
  have q' := Int.ofNat_lt.2 q
  rw [Int.toNat_of_nonneg S0, Int.natCast_mul] at p' q'
  rw [Int.natCast_add] at q'
  have l1 : (4294967292 : Int) ≤ l := by
    apply Int.not_lt.1
    intro hlt
    have := Int.mul_le_mul (show (l : Int) + ((1 : Nat) : Int) ≤ 4294967292 by omega) (show (l : Int) + ((1 : Nat) : Int) ≤ 4294967292 by omega) (by omega) (by omega)
    omega
  have l2 : (l : Int) ≤ 4294967300 := by
    apply Int.not_lt.1
    intro hlt
    have := Int.mul_le_mul (show (4294967301 : Int) ≤ l by omega) (show (4294967301 : Int) ≤ l by omega) (by omega) (by omega)
    omega
  refine ⟨u, v, s, l, r0, r1, r2, ?_, l1, l2⟩
  have gl : great (l : Int) = false := (not_great _).2 (by omega)
  unfold norm
  rw [if_neg (by simp), hpr, ← hl]
  simp [gu, gv, gs, told, gl]

end Go.Proofs.YtocdompopadanaaGreat
/- Package vec's turning back, and turns made whole. -/
namespace Go.Proofs.YtocdompopadanaaGreat
open Go.RowKit Fx
set_option linter.unusedVariables false

/-- Can a turn not be made whole? -/
def wholeBad (q0 q1 q2 q3 : Int) : Bool := decide (((norm [q0, q1, q2, q3]).getD 0) < 2147483648) || ((ratio q0 4294967296 ((norm [q0, q1, q2, q3]).getD 0)).isNone || (ratio q1 4294967296 ((norm [q0, q1, q2, q3]).getD 0)).isNone || (ratio q2 4294967296 ((norm [q0, q1, q2, q3]).getD 0)).isNone || (ratio q3 4294967296 ((norm [q0, q1, q2, q3]).getD 0)).isNone)

end Go.Proofs.YtocdompopadanaaGreat
/- Turns made whole, their matrices, and what is turned and turned back: in plain numbers. -/
namespace Go.Proofs.YtocdompopadanaaGreat
open Go.RowKit Fx
namespace WM

theorem mul_in {a b A B : Int} (ha : -A ≤ a ∧ a ≤ A) (hb : -B ≤ b ∧ b ≤ B) : -(A * B) ≤ a * b ∧ a * b ≤ A * B := by
  have h1 := Int.mul_nonneg (show 0 ≤ A - a by omega) (show 0 ≤ B + b by omega)
  have h2 := Int.mul_nonneg (show 0 ≤ A + a by omega) (show 0 ≤ B - b by omega)
  have h3 := Int.mul_nonneg (show 0 ≤ A - a by omega) (show 0 ≤ B - b by omega)
  have h4 := Int.mul_nonneg (show 0 ≤ A + a by omega) (show 0 ≤ B + b by omega)
  simp only [Int.add_mul, Int.sub_mul, Int.mul_add, Int.mul_sub] at h1 h2 h3 h4
  omega

theorem norm4_some {x y z u s : Int} (h : norm [x, y, z, u] = some s) : great x = false ∧ great y = false ∧ great z = false ∧ great u = false ∧ great s = false ∧ 0 ≤ s ∧ s * s ≤ x * x + (y * y + (z * z + u * u)) ∧ x * x + (y * y + (z * z + u * u)) < (s + 1) * (s + 1) := by
  unfold norm at h
  split at h
  · simp at h
  · split at h
    · simp at h
    · rename_i ha
      unfold told at h
      split at h
      · simp at h
      · rename_i hg
        have hg' : great _ = false := Bool.eq_false_iff.2 hg
        simp only [Option.some.injEq] at h
        rw [h] at hg'
        obtain ⟨p, q⟩ := isq_is (prods [x, y, z, u] [x, y, z, u]).toNat
        have h0 := prods_self [x, y, z, u]
        generalize hr : isq (prods [x, y, z, u] [x, y, z, u]).toNat = r at *
        have p' := Int.ofNat_le.2 p
        have q' := Int.ofNat_lt.2 q
        rw [Int.toNat_of_nonneg h0, Int.natCast_mul] at p' q'
        rw [Int.natCast_add] at q'
        simp only [prods, Int.add_zero] at p' q'
        simp only [List.any_cons, List.any_nil, Bool.or_false, Bool.not_eq_true, Bool.or_eq_false_iff] at ha
        subst h
        exact ⟨ha.1, ha.2.1, ha.2.2.1, ha.2.2.2, hg', by omega, p', q'⟩

/-- One part of a turn that is made whole; t: the size of x. -/
theorem part4 {x n u t : Int} (hn : 0 < n) (ht : -t ≤ x ∧ x ≤ t) (htn : t ≤ n) (hu : u = x * 4294967296 / n) : -4294967296 ≤ u ∧ u ≤ 4294967296 ∧ n * n * (u * u) ≤ 18446744073709551616 * (x * x) + 8589934592 * (t * n) + n * n ∧ 18446744073709551616 * (x * x) ≤ n * n * (u * u) + 8589934592 * (t * n) := by
  have hd := div_is (x * 4294967296) n (by omega)
  rw [← hu] at hd
  obtain ⟨e, he⟩ : ∃ e, e = x * 4294967296 - u * n := ⟨_, rfl⟩
  have e0 : 0 ≤ e := by omega
  have e1 : e < n := by have := hd.2; rw [Int.add_mul] at this; omega
  have un : u * n = x * 4294967296 - e := by omega
  have sq : n * n * (u * u) = 18446744073709551616 * (x * x) - 8589934592 * (x * e) + e * e := by
    have : n * n * (u * u) = (u * n) * (u * n) := by grind
    rw [this, un]; grind
  have b1 := mul_in (a := x) (b := e) (A := t) (B := n) ht (by omega)
  have b3 : e * e ≤ n * n := Int.mul_le_mul (by omega) (by omega) e0 (by omega)
  have b4 : 0 ≤ e * e := Int.mul_nonneg e0 e0
  refine ⟨?_, ?_, by omega, by omega⟩
  · apply Int.not_lt.1
    intro hlt
    have := Int.mul_le_mul_of_nonneg_right (show u + 1 ≤ -4294967296 by omega) (show 0 ≤ n by omega)
    have := hd.2
    omega
  · apply Int.not_lt.1
    intro hlt
    have := Int.mul_le_mul_of_nonneg_right (show 4294967297 ≤ u by omega) (show 0 ≤ n by omega)
    have := hd.1
    omega

theorem size_of (x : Int) : ∃ t : Int, 0 ≤ t ∧ (-t ≤ x ∧ x ≤ t) ∧ t * t = x * x ∧ (t = x ∨ t = -x) := by
  rcases Int.le_total 0 x with g | g
  · exact ⟨x, g, ⟨by omega, by omega⟩, rfl, Or.inl rfl⟩
  · exact ⟨-x, by omega, ⟨by omega, by omega⟩, by rw [Int.neg_mul_neg], Or.inr rfl⟩

theorem cauchy4 (a b c d : Int) : (a + b + c + d) * (a + b + c + d) ≤ 4 * (a * a + (b * b + (c * c + d * d))) := by
  have h1 := sq_nonneg (a - b)
  have h2 := sq_nonneg (a - c)
  have h3 := sq_nonneg (a - d)
  have h4 := sq_nonneg (b - c)
  have h5 := sq_nonneg (b - d)
  have h6 := sq_nonneg (c - d)
  have e : 4 * (a * a + (b * b + (c * c + d * d))) - (a + b + c + d) * (a + b + c + d) = (a - b) * (a - b) + (a - c) * (a - c) + (a - d) * (a - d) + (b - c) * (b - c) + (b - d) * (b - d) + (c - d) * (c - d) := by grind
  omega
theorem cauchy3 (a b c : Int) : (a + b + c) * (a + b + c) ≤ 3 * (a * a + (b * b + c * c)) := by
  have h1 := sq_nonneg (a - b)
  have h2 := sq_nonneg (a - c)
  have h4 := sq_nonneg (b - c)
  have e : 3 * (a * a + (b * b + c * c)) - (a + b + c) * (a + b + c) = (a - b) * (a - b) + (a - c) * (a - c) + (b - c) * (b - c) := by grind
  omega

/-- What is made whole is one long, but for 4. -/
theorem whole_long {x y z s n : Int} (h : norm [x, y, z, s] = some n) (hn : 2147483648 ≤ n) : ∃ a b c d l, ratio x 4294967296 n = some a ∧ ratio y 4294967296 n = some b ∧ ratio z 4294967296 n = some c ∧ ratio s 4294967296 n = some d ∧ norm [a, b, c, d] = some l ∧ 4294967292 ≤ l ∧ l ≤ 4294967300 ∧
    (-4294967296 ≤ a ∧ a ≤ 4294967296) ∧ (-4294967296 ≤ b ∧ b ≤ 4294967296) ∧ (-4294967296 ≤ c ∧ c ≤ 4294967296) ∧ (-4294967296 ≤ d ∧ d ≤ 4294967296) ∧
    -34359738376 ≤ a * a + (b * b + (c * c + d * d)) - 18446744073709551616 ∧ a * a + (b * b + (c * c + d * d)) - 18446744073709551616 ≤ 34359738376 := by
  obtain ⟨gx, gy, gz, gs, gn, n0, h1, h2⟩ := norm4_some h
  have px := sq_nonneg x
  have py := sq_nonneg y
  have pz := sq_nonneg z
  have ps := sq_nonneg s
  have ix := in_square (x := x) (R := y * y + (z * z + s * s)) (by omega) n0 (by omega)
  have iy := in_square (x := y) (R := x * x + (z * z + s * s)) (by omega) n0 (by omega)
  have iz := in_square (x := z) (R := x * x + (y * y + s * s)) (by omega) n0 (by omega)
  have is := in_square (x := s) (R := x * x + (y * y + z * z)) (by omega) n0 (by omega)
  obtain ⟨tx, tx0, tx1, tx2, tx3⟩ := size_of x
  obtain ⟨ty, ty0, ty1, ty2, ty3⟩ := size_of y
  obtain ⟨tz, tz0, tz1, tz2, tz3⟩ := size_of z
  obtain ⟨ts, ts0, ts1, ts2, ts3⟩ := size_of s
  have hx9 : tx ≤ n := by clear ty3 tz3 ts3; omega
  have hy9 : ty ≤ n := by clear tx3 tz3 ts3; omega
  have hz9 : tz ≤ n := by clear tx3 ty3 ts3; omega
  have hs9 : ts ≤ n := by clear tx3 ty3 tz3; omega
  clear tx3 ty3 tz3 ts3
  have kx := part4 (u := x * 4294967296 / n) (by omega) tx1 hx9 rfl
  have ky := part4 (u := y * 4294967296 / n) (by omega) ty1 hy9 rfl
  have kz := part4 (u := z * 4294967296 / n) (by omega) tz1 hz9 rfl
  have ks := part4 (u := s * 4294967296 / n) (by omega) ts1 hs9 rfl
  have one : ∀ t : Int, great t = false → -4294967296 ≤ t * 4294967296 / n ∧ t * 4294967296 / n ≤ 4294967296 → ratio t 4294967296 n = some (t * 4294967296 / n) := by
    intro t gt hb
    have g1 : great 4294967296 = false := by decide
    have g2 : great (t * 4294967296 / n) = false := (not_great _).2 ⟨Int.le_trans (by omega) hb.1, Int.le_trans hb.2 (by omega)⟩
    unfold ratio fl
    rw [if_neg (by omega : ¬ n = 0), gt, g1, gn, if_neg (by omega : ¬ n < 0)]
    simp [told, g2]
  have r0 := one x gx ⟨kx.1, kx.2.1⟩
  have r1 := one y gy ⟨ky.1, ky.2.1⟩
  have r2 := one z gz ⟨kz.1, kz.2.1⟩
  have r3 := one s gs ⟨ks.1, ks.2.1⟩
  generalize x * 4294967296 / n = a at *
  generalize y * 4294967296 / n = b at *
  generalize z * 4294967296 / n = c at *
  generalize s * 4294967296 / n = d at *
  clear one
  have ga : great a = false := (not_great _).2 (by omega)
  have gb : great b = false := (not_great _).2 (by omega)
  have gc : great c = false := (not_great _).2 (by omega)
  have gd : great d = false := (not_great _).2 (by omega)
  obtain ⟨T, hT⟩ : ∃ T, T = tx + ty + tz + ts := ⟨_, rfl⟩
  have hc := cauchy4 tx ty tz ts
  rw [← hT, tx2, ty2, tz2, ts2] at hc
  have h3 : (n + 1) * (n + 1) = n * n + 2 * n + 1 := by grind
  have hT1 : T ≤ 2 * n + 1 := by
    apply Int.not_lt.1
    intro hlt
    have := Int.mul_le_mul (show 2 * (n + 1) ≤ T by omega) (show 2 * (n + 1) ≤ T by omega) (by omega) (by omega)
    have e : 2 * (n + 1) * (2 * (n + 1)) = 4 * ((n + 1) * (n + 1)) := by grind
    omega
  have hTn : T * n ≤ (2 * n + 1) * n := Int.mul_le_mul_of_nonneg_right hT1 n0
  have hTn' : T * n = tx * n + ty * n + tz * n + ts * n := by rw [hT]; grind
  have e1 : (2 * n + 1) * n = 2 * (n * n) + n := by grind
  have nn : 2147483648 * n ≤ n * n := Int.mul_le_mul_of_nonneg_right hn n0
  have np : 0 < n * n := Int.mul_pos (by omega) (by omega)
  obtain ⟨S, hS⟩ : ∃ S, S = a * a + (b * b + (c * c + d * d)) := ⟨_, rfl⟩
  have pa := sq_nonneg a
  have pb := sq_nonneg b
  have pc := sq_nonneg c
  have pd := sq_nonneg d
  have S0 : 0 ≤ S := by omega
  have hnS : n * n * S = n * n * (a * a) + (n * n * (b * b) + (n * n * (c * c) + n * n * (d * d))) := by rw [hS, Int.mul_add, Int.mul_add, Int.mul_add]
  rw [h3] at h2
  clear hc tx2 ty2 tz2 ts2
  have up : n * n * S ≤ n * n * 18446744108069289992 := by omega
  have lo : n * n * 18446744056529682428 ≤ n * n * S := by omega
  have up' : S ≤ 18446744108069289992 := Int.le_of_mul_le_mul_left up np
  have lo' : 18446744056529682428 ≤ S := Int.le_of_mul_le_mul_left lo np
  have hpr : prods [a, b, c, d] [a, b, c, d] = S := by simp only [prods, Int.add_zero, hS]
  obtain ⟨p, q⟩ := isq_is S.toNat
  obtain ⟨l, hl⟩ : ∃ l : Nat, l = isq S.toNat := ⟨_, rfl⟩
  rw [← hl] at p q
  have p' := Int.ofNat_le.2 p
  have q' := Int.ofNat_lt.2 q
  rw [Int.toNat_of_nonneg S0, Int.natCast_mul] at p' q'
  rw [Int.natCast_add] at q'
  have l1 : (4294967292 : Int) ≤ l := by
    apply Int.not_lt.1
    intro hlt
    have := Int.mul_le_mul (show (l : Int) + ((1 : Nat) : Int) ≤ 4294967292 by omega) (show (l : Int) + ((1 : Nat) : Int) ≤ 4294967292 by omega) (by omega) (by omega)
    omega
  have l2 : (l : Int) ≤ 4294967300 := by
    apply Int.not_lt.1
    intro hlt
    have := Int.mul_le_mul (show (4294967301 : Int) ≤ l by omega) (show (4294967301 : Int) ≤ l by omega) (by omega) (by omega)
    omega
  refine ⟨a, b, c, d, l, r0, r1, r2, r3, ?_, l1, l2, ⟨kx.1, kx.2.1⟩, ⟨ky.1, ky.2.1⟩, ⟨kz.1, kz.2.1⟩, ⟨ks.1, ks.2.1⟩, by omega, by omega⟩
  have gl : great (l : Int) = false := (not_great _).2 (by omega)
  unfold norm
  rw [if_neg (by simp), hpr, ← hl]
  simp [ga, gb, gc, gd, told, gl]

/-- A sum of two products, rounded. -/
theorem dot2 {a b c d : Int} (ha : -8589934592 ≤ a ∧ a ≤ 8589934592) (hb : -8589934592 ≤ b ∧ b ≤ 8589934592) (hc : -4294967296 ≤ c ∧ c ≤ 4294967296) (hd : -4294967296 ≤ d ∧ d ≤ 4294967296) :
    ∃ r : Int, dot [a, b] [c, d] = some r ∧ 4294967296 * r ≤ a * c + b * d ∧ a * c + b * d < 4294967296 * r + 4294967296 ∧ -17179869184 ≤ r ∧ r ≤ 17179869184 := by
  have k1 := mul_in ha hc
  have k2 := mul_in hb hd
  have hv := div_is (a * c + b * d) 4294967296 (by omega)
  have e : prods [a, b] [c, d] / 4294967296 = (a * c + b * d) / 4294967296 := by simp only [prods, Int.add_zero]
  refine ⟨(a * c + b * d) / 4294967296, ?_, by omega, by omega, by omega, by omega⟩
  have g1 : [a, b].any great = false := by simp [(not_great a).2 (by omega), (not_great b).2 (by omega)]
  have g2 : [c, d].any great = false := by simp [(not_great c).2 (by omega), (not_great d).2 (by omega)]
  have g3 : great ((a * c + b * d) / 4294967296) = false := (not_great _).2 (by omega)
  unfold dot
  rw [if_neg (by simp), if_neg (by simp), g1, g2, e]
  simp [told, g3]
theorem add2 {q : Int} (h : -4294967296 ≤ q ∧ q ≤ 4294967296) : add q q = some (2 * q) := by
  unfold add
  rw [(not_great q).2 (by omega), show q + q = 2 * q by omega]
  simp [told, (not_great (2 * q)).2 (by omega)]
theorem sub0 {q : Int} (h : -4294967296 ≤ q ∧ q ≤ 4294967296) : sub 0 q = some (-q) := by
  unfold sub
  rw [(not_great q).2 (by omega), show (0 : Int) - q = -q by omega, (not_great 0).2 (by omega)]
  simp [told, (not_great (-q)).2 (by omega)]
theorem sub1 {q : Int} (h : -17179869184 ≤ q ∧ q ≤ 17179869184) : sub 4294967296 q = some (4294967296 - q) := by
  unfold sub
  rw [(not_great q).2 (by omega), (not_great 4294967296).2 (by omega)]
  simp [told, (not_great (4294967296 - q)).2 (by omega)]

/-- A matrix's part m, as near as a step to R (both counted in steps of steps), and not too great. -/
def Near (m R : Int) : Prop := (-4294967296 ≤ 4294967296 * m - R ∧ 4294967296 * m - R ≤ 4294967296) ∧ (-36893488147419103232 ≤ R ∧ R ≤ 36893488147419103232) ∧ (-8589934592 ≤ m ∧ m ≤ 8589934592)

theorem near_off {r P : Int} (l : 4294967296 * r ≤ P) (u : P < 4294967296 * r + 4294967296) (hP : -18446744108069289992 ≤ P ∧ P ≤ 18446744108069289992) : Near r P := by
  unfold Near
  omega
theorem near_dia {r P : Int} (l : 4294967296 * r ≤ P) (u : P < 4294967296 * r + 4294967296) (hP : 0 ≤ P ∧ P ≤ 36893488216138579984) : Near (4294967296 - r) (18446744073709551616 - P) := by
  unfold Near
  omega
theorem two_le {a b : Int} : -(a * a + b * b) ≤ 2 * (a * b) ∧ 2 * (a * b) ≤ a * a + b * b := by
  have h3 := sq_nonneg (a + b)
  have h4 := sq_nonneg (a - b)
  have e3 : (a + b) * (a + b) = a * a + b * b + 2 * (a * b) := by grind
  have e4 : (a - b) * (a - b) = a * a + b * b - 2 * (a * b) := by grind
  omega
theorem off_le {a b c d M : Int} (h : a * a + b * b + (c * c + d * d) ≤ M) : (-M ≤ 2 * (a * b) + 2 * (c * d) ∧ 2 * (a * b) + 2 * (c * d) ≤ M) ∧ (-M ≤ 2 * (a * b) + 2 * (c * -d) ∧ 2 * (a * b) + 2 * (c * -d) ≤ M) := by
  have h1 := two_le (a := a) (b := b)
  have h2 := two_le (a := c) (b := d)
  rw [Int.mul_neg]
  omega
theorem dia_le {a b c d M : Int} (h : a * a + b * b + (c * c + d * d) ≤ M) : 0 ≤ 2 * (a * a) + 2 * (b * b) ∧ 2 * (a * a) + 2 * (b * b) ≤ 2 * M := by
  have h1 := sq_nonneg a
  have h2 := sq_nonneg b
  have h3 := sq_nonneg c
  have h4 := sq_nonneg d
  omega
theorem neg_in {q : Int} (h : -4294967296 ≤ q ∧ q ≤ 4294967296) : -4294967296 ≤ -q ∧ -q ≤ 4294967296 := by omega
theorem dbl_in {q : Int} (h : -4294967296 ≤ q ∧ q ≤ 4294967296) : -8589934592 ≤ 2 * q ∧ 2 * q ≤ 8589934592 := by omega

theorem rows_near {w x y z : Int} (hw : -4294967296 ≤ w ∧ w ≤ 4294967296) (hx : -4294967296 ≤ x ∧ x ≤ 4294967296) (hy : -4294967296 ≤ y ∧ y ≤ 4294967296) (hz : -4294967296 ≤ z ∧ z ≤ 4294967296)
    (h2 : w * w + (x * x + (y * y + z * z)) - 18446744073709551616 ≤ 34359738376) : rowsBad w x y z = false ∧
    Near (rowsAt0 w x y z) (18446744073709551616 - (2 * (y * y) + 2 * (z * z))) ∧ Near (rowsAt1 w x y z) (2 * (x * y) + 2 * (w * -z)) ∧ Near (rowsAt2 w x y z) (2 * (x * z) + 2 * (w * y)) ∧
    Near (rowsAt3 w x y z) (2 * (x * y) + 2 * (w * z)) ∧ Near (rowsAt4 w x y z) (18446744073709551616 - (2 * (x * x) + 2 * (z * z))) ∧ Near (rowsAt5 w x y z) (2 * (y * z) + 2 * (w * -x)) ∧
    Near (rowsAt6 w x y z) (2 * (x * z) + 2 * (w * -y)) ∧ Near (rowsAt7 w x y z) (2 * (y * z) + 2 * (w * x)) ∧ Near (rowsAt8 w x y z) (18446744073709551616 - (2 * (x * x) + 2 * (y * y))) := by
  have B0 := dia_le (a := y) (b := z) (c := w) (d := x) (M := 18446744108069289992) (by omega)
  have B1 := off_le (a := x) (b := y) (c := w) (d := z) (M := 18446744108069289992) (by omega)
  have B2 := off_le (a := x) (b := z) (c := w) (d := y) (M := 18446744108069289992) (by omega)
  have B4 := dia_le (a := x) (b := z) (c := w) (d := y) (M := 18446744108069289992) (by omega)
  have B5 := off_le (a := y) (b := z) (c := w) (d := x) (M := 18446744108069289992) (by omega)
  have B8 := dia_le (a := x) (b := y) (c := w) (d := z) (M := 18446744108069289992) (by omega)
  obtain ⟨r0, d0, l0, u0, k0, j0⟩ := dot2 (dbl_in hy) (dbl_in hz) hy hz
  obtain ⟨r1, d1, l1, u1, k1, j1⟩ := dot2 (dbl_in hx) (dbl_in hw) hy (neg_in hz)
  obtain ⟨r2, d2, l2, u2, k2, j2⟩ := dot2 (dbl_in hx) (dbl_in hw) hz hy
  obtain ⟨r3, d3, l3, u3, k3, j3⟩ := dot2 (dbl_in hx) (dbl_in hw) hy hz
  obtain ⟨r4, d4, l4, u4, k4, j4⟩ := dot2 (dbl_in hx) (dbl_in hz) hx hz
  obtain ⟨r5, d5, l5, u5, k5, j5⟩ := dot2 (dbl_in hy) (dbl_in hw) hz (neg_in hx)
  obtain ⟨r6, d6, l6, u6, k6, j6⟩ := dot2 (dbl_in hx) (dbl_in hw) hz (neg_in hy)
  obtain ⟨r7, d7, l7, u7, k7, j7⟩ := dot2 (dbl_in hy) (dbl_in hw) hz hx
  obtain ⟨r8, d8, l8, u8, k8, j8⟩ := dot2 (dbl_in hx) (dbl_in hy) hx hy
  simp only [Int.mul_assoc] at l0 u0 l1 u1 l2 u2 l3 u3 l4 u4 l5 u5 l6 u6 l7 u7 l8 u8
  unfold rowsBad rowsAt0 rowsAt1 rowsAt2 rowsAt3 rowsAt4 rowsAt5 rowsAt6 rowsAt7 rowsAt8
  simp only [add2 hw, add2 hx, add2 hy, add2 hz, sub0 hw, sub0 hx, sub0 hy, sub0 hz, Option.getD_some, Option.isNone_some, d0, d1, d2, d3, d4, d5, d6, d7, d8, sub1 ⟨k0, j0⟩, sub1 ⟨k4, j4⟩, sub1 ⟨k8, j8⟩]
  exact ⟨by simp, near_dia l0 u0 B0, near_off l1 u1 B1.2, near_off l2 u2 B2.1, near_off l3 u3 B1.1, near_dia l4 u4 B4, near_off l5 u5 B5.2, near_off l6 u6 B2.2, near_off l7 u7 B5.1, near_dia l8 u8 B8⟩

theorem near_mul {m k R T : Int} (h : Near m R) (h' : Near k T) : -316912650057057350374175801344 - 18446744073709551616 ≤ 18446744073709551616 * (m * k) - R * T ∧ 18446744073709551616 * (m * k) - R * T ≤ 316912650057057350374175801344 + 18446744073709551616 := by
  obtain ⟨a, b, _⟩ := h
  obtain ⟨c, d, _⟩ := h'
  generalize hδ : 4294967296 * m - R = δ at *
  generalize hτ : 4294967296 * k - T = τ at *
  have e : 18446744073709551616 * (m * k) = R * T + R * τ + δ * T + δ * τ := by
    have h1 : 4294967296 * m = R + δ := by omega
    have h2 : 4294967296 * k = T + τ := by omega
    have h3 : 18446744073709551616 * (m * k) = (4294967296 * m) * (4294967296 * k) := by grind
    rw [h3, h1, h2]; grind
  have k1 := mul_in b c
  have k2 := mul_in a d
  have k3 := mul_in a c
  omega

/-- Two columns: their product is D, but for 85 in steps. -/
theorem gram {m0 m1 m2 k0 k1 k2 R0 R1 R2 T0 T1 T2 D : Int} (h0 : Near m0 R0) (h1 : Near m1 R1) (h2 : Near m2 R2) (g0 : Near k0 T0) (g1 : Near k1 T1) (g2 : Near k2 T2)
    (hz : -5704427701027032306735164424192 ≤ R0 * T0 + R1 * T1 + R2 * T2 - 18446744073709551616 * D ∧ R0 * T0 + R1 * T1 + R2 * T2 - 18446744073709551616 * D ≤ 5704427701027032306735164424192) :
    -365072220160 ≤ m0 * k0 + m1 * k1 + m2 * k2 - D ∧ m0 * k0 + m1 * k1 + m2 * k2 - D ≤ 365072220160 := by
  have a0 := near_mul h0 g0
  have a1 := near_mul h1 g1
  have a2 := near_mul h2 g2
  omega
end WM
end Go.Proofs.YtocdompopadanaaGreat
/- Turned, and turned back: in plain numbers. -/
namespace Go.Proofs.YtocdompopadanaaGreat
open Go.RowKit Fx
namespace WM

theorem id_in {E K : Int} (hE : -34359738376 ≤ E ∧ E ≤ 34359738376) (hK : -18446744108069289992 ≤ K ∧ K ≤ 18446744108069289992) : -5704427701027032306735164424192 ≤ 4 * (E * K) ∧ 4 * (E * K) ≤ 5704427701027032306735164424192 := by
  have := mul_in hE hK
  omega
theorem hz_of {L D E K : Int} (e : L - 18446744073709551616 * D = 4 * (E * K)) (hE : -34359738376 ≤ E ∧ E ≤ 34359738376) (hK : -18446744108069289992 ≤ K ∧ K ≤ 18446744108069289992) :
    -5704427701027032306735164424192 ≤ L - 18446744073709551616 * D ∧ L - 18446744073709551616 * D ≤ 5704427701027032306735164424192 := by
  rw [e]; exact id_in hE hK
theorem same_id (s w x y z : Int) : (s - (2 * (y * y) + 2 * (z * z))) * (s - (2 * (y * y) + 2 * (z * z))) + (2 * (x * y) + 2 * (w * z)) * (2 * (x * y) + 2 * (w * z)) + (2 * (x * z) + 2 * (w * -y)) * (2 * (x * z) + 2 * (w * -y)) - s * s = 4 * ((w * w + (x * x + (y * y + z * z)) - s) * (y * y + z * z)) := by grind
theorem same_id1 (s w x y z : Int) : (2 * (x * y) + 2 * (w * -z)) * (2 * (x * y) + 2 * (w * -z)) + (s - (2 * (x * x) + 2 * (z * z))) * (s - (2 * (x * x) + 2 * (z * z))) + (2 * (y * z) + 2 * (w * x)) * (2 * (y * z) + 2 * (w * x)) - s * s = 4 * ((w * w + (x * x + (y * y + z * z)) - s) * (x * x + z * z)) := by grind
theorem same_id2 (s w x y z : Int) : (2 * (x * z) + 2 * (w * y)) * (2 * (x * z) + 2 * (w * y)) + (2 * (y * z) + 2 * (w * -x)) * (2 * (y * z) + 2 * (w * -x)) + (s - (2 * (x * x) + 2 * (y * y))) * (s - (2 * (x * x) + 2 * (y * y))) - s * s = 4 * ((w * w + (x * x + (y * y + z * z)) - s) * (x * x + y * y)) := by grind
theorem other_id01 (s w x y z : Int) : (s - (2 * (y * y) + 2 * (z * z))) * (2 * (x * y) + 2 * (w * -z)) + (2 * (x * y) + 2 * (w * z)) * (s - (2 * (x * x) + 2 * (z * z))) + (2 * (x * z) + 2 * (w * -y)) * (2 * (y * z) + 2 * (w * x)) - s * 0 = 4 * ((w * w + (x * x + (y * y + z * z)) - s) * -(x * y)) := by grind
theorem other_id02 (s w x y z : Int) : (s - (2 * (y * y) + 2 * (z * z))) * (2 * (x * z) + 2 * (w * y)) + (2 * (x * y) + 2 * (w * z)) * (2 * (y * z) + 2 * (w * -x)) + (2 * (x * z) + 2 * (w * -y)) * (s - (2 * (x * x) + 2 * (y * y))) - s * 0 = 4 * ((w * w + (x * x + (y * y + z * z)) - s) * -(x * z)) := by grind
theorem other_id12 (s w x y z : Int) : (2 * (x * y) + 2 * (w * -z)) * (2 * (x * z) + 2 * (w * y)) + (s - (2 * (x * x) + 2 * (z * z))) * (2 * (y * z) + 2 * (w * -x)) + (2 * (y * z) + 2 * (w * x)) * (s - (2 * (x * x) + 2 * (y * y))) - s * 0 = 4 * ((w * w + (x * x + (y * y + z * z)) - s) * -(y * z)) := by grind

def Whole (w x y z : Int) : Prop := (-4294967296 ≤ w ∧ w ≤ 4294967296) ∧ (-4294967296 ≤ x ∧ x ≤ 4294967296) ∧ (-4294967296 ≤ y ∧ y ≤ 4294967296) ∧ (-4294967296 ≤ z ∧ z ≤ 4294967296) ∧
    -34359738376 ≤ w * w + (x * x + (y * y + z * z)) - 18446744073709551616 ∧ w * w + (x * x + (y * y + z * z)) - 18446744073709551616 ≤ 34359738376

def Gram (m0 m1 m2 k0 k1 k2 D : Int) : Prop := -365072220160 ≤ m0 * k0 + m1 * k1 + m2 * k2 - D ∧ m0 * k0 + m1 * k1 + m2 * k2 - D ≤ 365072220160
theorem Gram.comm {m0 m1 m2 k0 k1 k2 D : Int} (h : Gram m0 m1 m2 k0 k1 k2 D) : Gram k0 k1 k2 m0 m1 m2 D := by
  unfold Gram at h ⊢
  rw [Int.mul_comm k0, Int.mul_comm k1, Int.mul_comm k2]
  exact h

theorem grams {w x y z m0 m1 m2 m3 m4 m5 m6 m7 m8 : Int} (h : Whole w x y z)
    (n0 : Near m0 (18446744073709551616 - (2 * (y * y) + 2 * (z * z)))) (n1 : Near m1 (2 * (x * y) + 2 * (w * -z))) (n2 : Near m2 (2 * (x * z) + 2 * (w * y)))
    (n3 : Near m3 (2 * (x * y) + 2 * (w * z))) (n4 : Near m4 (18446744073709551616 - (2 * (x * x) + 2 * (z * z)))) (n5 : Near m5 (2 * (y * z) + 2 * (w * -x)))
    (n6 : Near m6 (2 * (x * z) + 2 * (w * -y))) (n7 : Near m7 (2 * (y * z) + 2 * (w * x))) (n8 : Near m8 (18446744073709551616 - (2 * (x * x) + 2 * (y * y)))) :
    Gram m0 m3 m6 m0 m3 m6 18446744073709551616 ∧ Gram m1 m4 m7 m1 m4 m7 18446744073709551616 ∧ Gram m2 m5 m8 m2 m5 m8 18446744073709551616 ∧ Gram m0 m3 m6 m1 m4 m7 0 ∧ Gram m0 m3 m6 m2 m5 m8 0 ∧ Gram m1 m4 m7 m2 m5 m8 0 := by
  obtain ⟨_, _, _, _, h1, h2⟩ := h
  have hE : -34359738376 ≤ w * w + (x * x + (y * y + z * z)) - 18446744073709551616 ∧ w * w + (x * x + (y * y + z * z)) - 18446744073709551616 ≤ 34359738376 := ⟨h1, h2⟩
  have pw := sq_nonneg w
  have px := sq_nonneg x
  have py := sq_nonneg y
  have pz := sq_nonneg z
  have txy := two_le (a := x) (b := y)
  have txz := two_le (a := x) (b := z)
  have tyz := two_le (a := y) (b := z)
  refine ⟨gram n0 n3 n6 n0 n3 n6 (hz_of (same_id _ w x y z) hE (by omega)), gram n1 n4 n7 n1 n4 n7 (hz_of (same_id1 _ w x y z) hE (by omega)), gram n2 n5 n8 n2 n5 n8 (hz_of (same_id2 _ w x y z) hE (by omega)),
    gram n0 n3 n6 n1 n4 n7 (hz_of (other_id01 _ w x y z) hE (by omega)), gram n0 n3 n6 n2 n5 n8 (hz_of (other_id02 _ w x y z) hE (by omega)), gram n1 n4 n7 n2 n5 n8 (hz_of (other_id12 _ w x y z) hE (by omega))⟩

/-- Three products, rounded. -/
theorem dot3 {m0 m1 m2 a0 a1 a2 B : Int} (h0 : -8589934592 ≤ m0 ∧ m0 ≤ 8589934592) (h1 : -8589934592 ≤ m1 ∧ m1 ≤ 8589934592) (h2 : -8589934592 ≤ m2 ∧ m2 ≤ 8589934592)
    (k0 : -B ≤ a0 ∧ a0 ≤ B) (k1 : -B ≤ a1 ∧ a1 ≤ B) (k2 : -B ≤ a2 ∧ a2 ≤ B) (hB : B ≤ 1125899906842624) :
    ∃ r : Int, dot [m0, m1, m2] [a0, a1, a2] = some r ∧ (4294967296 * r ≤ m0 * a0 + (m1 * a1 + m2 * a2) ∧ m0 * a0 + (m1 * a1 + m2 * a2) < 4294967296 * r + 4294967296) ∧ (-(6 * B + 1) ≤ r ∧ r ≤ 6 * B + 1) := by
  have j0 := mul_in h0 k0
  have j1 := mul_in h1 k1
  have j2 := mul_in h2 k2
  have e : prods [m0, m1, m2] [a0, a1, a2] / 4294967296 = (m0 * a0 + (m1 * a1 + m2 * a2)) / 4294967296 := by simp only [prods, Int.add_zero]
  have g1 : [m0, m1, m2].any great = false := by simp [(not_great m0).2 (by omega), (not_great m1).2 (by omega), (not_great m2).2 (by omega)]
  have g2 : [a0, a1, a2].any great = false := by simp [(not_great a0).2 (by omega), (not_great a1).2 (by omega), (not_great a2).2 (by omega)]
  have hX : -(25769803776 * B) ≤ m0 * a0 + (m1 * a1 + m2 * a2) ∧ m0 * a0 + (m1 * a1 + m2 * a2) ≤ 25769803776 * B := by omega
  generalize m0 * a0 + (m1 * a1 + m2 * a2) = X at *
  refine ⟨X / 4294967296, ?_, by omega, by omega⟩
  have g3 : great (X / 4294967296) = false := (not_great _).2 (by omega)
  unfold dot
  rw [if_neg (by simp), if_neg (by simp), g1, g2, e]
  simp [told, g3]

theorem back_one {c0 c1 c2 m0 m1 m2 m3 m4 m5 m6 m7 m8 a0 a1 a2 t0 t1 t2 b A0 A1 A2 L D0 D1 D2 : Int}
    (hG0 : Gram m0 m3 m6 c0 c1 c2 D0) (hG1 : Gram m1 m4 m7 c0 c1 c2 D1) (hG2 : Gram m2 m5 m8 c0 c1 c2 D2)
    (h0 : -8589934592 ≤ c0 ∧ c0 ≤ 8589934592) (h1 : -8589934592 ≤ c1 ∧ c1 ≤ 8589934592) (h2 : -8589934592 ≤ c2 ∧ c2 ≤ 8589934592)
    (ht0 : 4294967296 * t0 ≤ m0 * a0 + (m1 * a1 + m2 * a2) ∧ m0 * a0 + (m1 * a1 + m2 * a2) < 4294967296 * t0 + 4294967296)
    (ht1 : 4294967296 * t1 ≤ m3 * a0 + (m4 * a1 + m5 * a2) ∧ m3 * a0 + (m4 * a1 + m5 * a2) < 4294967296 * t1 + 4294967296)
    (ht2 : 4294967296 * t2 ≤ m6 * a0 + (m7 * a1 + m8 * a2) ∧ m6 * a0 + (m7 * a1 + m8 * a2) < 4294967296 * t2 + 4294967296)
    (hb : 4294967296 * b ≤ c0 * t0 + (c1 * t1 + c2 * t2) ∧ c0 * t0 + (c1 * t1 + c2 * t2) < 4294967296 * b + 4294967296)
    (ha0 : -A0 ≤ a0 ∧ a0 ≤ A0) (ha1 : -A1 ≤ a1 ∧ a1 ≤ A1) (ha2 : -A2 ≤ a2 ∧ a2 ≤ A2) (hA : A0 + A1 + A2 ≤ 2 * L + 1) :
    -(365072220160 * (2 * L + 1) + 129127208515966861312) ≤ 18446744073709551616 * b - (D0 * a0 + D1 * a1 + D2 * a2) ∧ 18446744073709551616 * b - (D0 * a0 + D1 * a1 + D2 * a2) ≤ 365072220160 * (2 * L + 1) + 129127208515966861312 := by
  obtain ⟨r0, e0⟩ : ∃ r, r = m0 * a0 + (m1 * a1 + m2 * a2) - 4294967296 * t0 := ⟨_, rfl⟩
  obtain ⟨r1, e1⟩ : ∃ r, r = m3 * a0 + (m4 * a1 + m5 * a2) - 4294967296 * t1 := ⟨_, rfl⟩
  obtain ⟨r2, e2⟩ : ∃ r, r = m6 * a0 + (m7 * a1 + m8 * a2) - 4294967296 * t2 := ⟨_, rfl⟩
  have i0 : -4294967296 ≤ r0 ∧ r0 ≤ 4294967296 := by clear hG0 hG1 hG2 ht1 ht2 hb; omega
  have i1 : -4294967296 ≤ r1 ∧ r1 ≤ 4294967296 := by clear hG0 hG1 hG2 ht0 ht2 hb; omega
  have i2 : -4294967296 ≤ r2 ∧ r2 ≤ 4294967296 := by clear hG0 hG1 hG2 ht0 ht1 hb; omega
  have k0 := mul_in h0 i0
  have k1 := mul_in h1 i1
  have k2 := mul_in h2 i2
  have j0 := mul_in hG0 ha0
  have j1 := mul_in hG1 ha1
  have j2 := mul_in hG2 ha2
  have key : 4294967296 * (c0 * t0 + (c1 * t1 + c2 * t2)) = (m0 * c0 + m3 * c1 + m6 * c2 - D0) * a0 + (m1 * c0 + m4 * c1 + m7 * c2 - D1) * a1 + (m2 * c0 + m5 * c1 + m8 * c2 - D2) * a2 + (D0 * a0 + D1 * a1 + D2 * a2) - (c0 * r0 + c1 * r1 + c2 * r2) := by
    rw [e0, e1, e2]; grind
  clear hG0 hG1 hG2 ht0 ht1 ht2 e0 e1 e2 i0 i1 i2 h0 h1 h2 ha0 ha1 ha2
  generalize (m0 * c0 + m3 * c1 + m6 * c2 - D0) * a0 = X0 at *
  generalize (m1 * c0 + m4 * c1 + m7 * c2 - D1) * a1 = X1 at *
  generalize (m2 * c0 + m5 * c1 + m8 * c2 - D2) * a2 = X2 at *
  generalize D0 * a0 + D1 * a1 + D2 * a2 = Y at *
  generalize c0 * t0 + (c1 * t1 + c2 * t2) = Z at *
  generalize c0 * r0 = Y0 at *
  generalize c1 * r1 = Y1 at *
  generalize c2 * r2 = Y2 at *
  omega

theorem far_of {a b L : Int} (hL : 0 ≤ L) (h : -(365072220160 * (2 * L + 1) + 129127208515966861312) ≤ 18446744073709551616 * b - 18446744073709551616 * a ∧ 18446744073709551616 * b - 18446744073709551616 * a ≤ 365072220160 * (2 * L + 1) + 129127208515966861312) :
    -(L / 16777216 + 64) ≤ b - a ∧ b - a ≤ L / 16777216 + 64 := by omega

theorem turned_back {w x y z a0 a1 a2 : Int} (h : Whole w x y z) (h0 : -17592186044416 ≤ a0 ∧ a0 ≤ 17592186044416) (h1 : -17592186044416 ≤ a1 ∧ a1 ≤ 17592186044416) (h2 : -17592186044416 ≤ a2 ∧ a2 ≤ 17592186044416) :
    rowsBad w x y z = false ∧ ∃ m0 m1 m2 m3 m4 m5 m6 m7 m8 t0 t1 t2 b0 b1 b2 L : Int, (m0 = rowsAt0 w x y z ∧ m1 = rowsAt1 w x y z ∧ m2 = rowsAt2 w x y z ∧ m3 = rowsAt3 w x y z ∧ m4 = rowsAt4 w x y z ∧ m5 = rowsAt5 w x y z ∧ m6 = rowsAt6 w x y z ∧ m7 = rowsAt7 w x y z ∧ m8 = rowsAt8 w x y z) ∧
      (dot [m0, m1, m2] [a0, a1, a2] = some t0 ∧ dot [m3, m4, m5] [a0, a1, a2] = some t1 ∧ dot [m6, m7, m8] [a0, a1, a2] = some t2) ∧
      (dot [m0, m3, m6] [t0, t1, t2] = some b0 ∧ dot [m1, m4, m7] [t0, t1, t2] = some b1 ∧ dot [m2, m5, m8] [t0, t1, t2] = some b2) ∧
      norm [a0, a1, a2] = some L ∧ (0 ≤ L ∧ L ≤ 70368744177664) ∧ (-(L / 16777216 + 64) ≤ b0 - a0 ∧ b0 - a0 ≤ L / 16777216 + 64) ∧ (-(L / 16777216 + 64) ≤ b1 - a1 ∧ b1 - a1 ≤ L / 16777216 + 64) ∧ (-(L / 16777216 + 64) ≤ b2 - a2 ∧ b2 - a2 ≤ L / 16777216 + 64) := by
  obtain ⟨hw, hx, hy, hz, hN1, hN2⟩ := id h
  obtain ⟨hbad, n0, n1, n2, n3, n4, n5, n6, n7, n8⟩ := rows_near hw hx hy hz hN2
  refine ⟨hbad, ?_⟩
  generalize rowsAt0 w x y z = m0 at *
  generalize rowsAt1 w x y z = m1 at *
  generalize rowsAt2 w x y z = m2 at *
  generalize rowsAt3 w x y z = m3 at *
  generalize rowsAt4 w x y z = m4 at *
  generalize rowsAt5 w x y z = m5 at *
  generalize rowsAt6 w x y z = m6 at *
  generalize rowsAt7 w x y z = m7 at *
  generalize rowsAt8 w x y z = m8 at *
  obtain ⟨G00, G11, G22, G01, G02, G12⟩ := grams h n0 n1 n2 n3 n4 n5 n6 n7 n8
  have c0 := n0.2.2
  have c1 := n1.2.2
  have c2 := n2.2.2
  have c3 := n3.2.2
  have c4 := n4.2.2
  have c5 := n5.2.2
  have c6 := n6.2.2
  have c7 := n7.2.2
  have c8 := n8.2.2
  clear n0 n1 n2 n3 n4 n5 n6 n7 n8 hbad hN1 hN2
  obtain ⟨t0, d0, s0, u0⟩ := dot3 c0 c1 c2 h0 h1 h2 (by omega)
  obtain ⟨t1, d1, s1, u1⟩ := dot3 c3 c4 c5 h0 h1 h2 (by omega)
  obtain ⟨t2, d2, s2, u2⟩ := dot3 c6 c7 c8 h0 h1 h2 (by omega)
  obtain ⟨b0, e0, v0, _⟩ := dot3 c0 c3 c6 u0 u1 u2 (by omega)
  obtain ⟨b1, e1, v1, _⟩ := dot3 c1 c4 c7 u0 u1 u2 (by omega)
  obtain ⟨b2, e2, v2, _⟩ := dot3 c2 c5 c8 u0 u1 u2 (by omega)
  obtain ⟨A0, A00, A01, A02, A03⟩ := size_of a0
  obtain ⟨A1, A10, A11, A12, A13⟩ := size_of a1
  obtain ⟨A2, A20, A21, A22, A23⟩ := size_of a2
  have hc := cauchy3 A0 A1 A2
  rw [A02, A12, A22] at hc
  have m0' := mul_in h0 h0
  have m1' := mul_in h1 h1
  have m2' := mul_in h2 h2
  have p0 := sq_nonneg a0
  have p1 := sq_nonneg a1
  have p2 := sq_nonneg a2
  obtain ⟨p, q⟩ := isq_is (a0 * a0 + (a1 * a1 + a2 * a2)).toNat
  obtain ⟨l, hl⟩ : ∃ l : Nat, l = isq (a0 * a0 + (a1 * a1 + a2 * a2)).toNat := ⟨_, rfl⟩
  rw [← hl] at p q
  have p' := Int.ofNat_le.2 p
  have q' := Int.ofNat_lt.2 q
  rw [Int.toNat_of_nonneg (by omega), Int.natCast_mul] at p' q'
  rw [Int.natCast_add] at q'
  clear p q
  have l2 : (l : Int) ≤ 70368744177664 := by
    clear A03 A13 A23 s0 s1 s2 v0 v1 v2
    apply Int.not_lt.1
    intro hlt
    have := Int.mul_le_mul (show (70368744177664 : Int) ≤ l by omega) (show (70368744177664 : Int) ≤ l by omega) (by omega) (by omega)
    omega
  have hA : A0 + A1 + A2 ≤ 2 * (l : Int) + 1 := by
    clear A03 A13 A23 s0 s1 s2 v0 v1 v2
    apply Int.not_lt.1
    intro hlt
    have := Int.mul_le_mul (show 2 * ((l : Int) + ((1 : Nat) : Int)) ≤ A0 + A1 + A2 by omega) (show 2 * ((l : Int) + ((1 : Nat) : Int)) ≤ A0 + A1 + A2 by omega) (by omega) (by omega)
    have e : 2 * ((l : Int) + ((1 : Nat) : Int)) * (2 * ((l : Int) + ((1 : Nat) : Int))) = 4 * (((l : Int) + ((1 : Nat) : Int)) * ((l : Int) + ((1 : Nat) : Int))) := by grind
    omega
  have f0 := back_one G00 G01.comm G02.comm c0 c3 c6 s0 s1 s2 v0 A01 A11 A21 hA
  have f1 := back_one G01 G11 G12.comm c1 c4 c7 s0 s1 s2 v1 A01 A11 A21 hA
  have f2 := back_one G02 G12 G22 c2 c5 c8 s0 s1 s2 v2 A01 A11 A21 hA
  have hn : norm [a0, a1, a2] = some (l : Int) := by
    have hpr : prods [a0, a1, a2] [a0, a1, a2] = a0 * a0 + (a1 * a1 + a2 * a2) := by simp only [prods, Int.add_zero]
    have gl : great (l : Int) = false := (not_great _).2 (by omega)
    unfold norm
    rw [if_neg (by simp), hpr, ← hl]
    simp [(not_great a0).2 (by omega), (not_great a1).2 (by omega), (not_great a2).2 (by omega), told, gl]
  simp only [Int.zero_mul, Int.add_zero, Int.zero_add] at f0 f1 f2
  exact ⟨m0, m1, m2, m3, m4, m5, m6, m7, m8, t0, t1, t2, b0, b1, b2, l, ⟨rfl, rfl, rfl, rfl, rfl, rfl, rfl, rfl, rfl⟩, ⟨d0, d1, d2⟩, ⟨e0, e1, e2⟩, hn, ⟨by omega, l2⟩, far_of (by omega) f0, far_of (by omega) f1, far_of (by omega) f2⟩
end WM
end Go.Proofs.YtocdompopadanaaGreat
