/- Plain mathematics of layer 9: two balls are told apart by their distance. No program in sight. -/
import Derived.Test.YthcdpngkoejgpaaNMathB
import Derived.Test.YthcdpngkoejgpaaNrC
namespace Go.Proofs.Ythcdpngkoejgpaa
open Fx (isq isq_is isq_of)
set_option linter.unusedVariables false

/-- A part that was made less by a number, to nought: what is left goes the same way. -/
def Same (x y e J : Int) : Prop := x = J * y + e ∧ (0 ≤ x → 0 ≤ y ∧ 0 ≤ e) ∧ (x ≤ 0 → y ≤ 0 ∧ e ≤ 0) ∧ -(J - 1) ≤ e ∧ e ≤ J - 1
theorem same_one (x : Int) : Same x x 0 1 := ⟨by omega, fun h => ⟨h, by omega⟩, fun h => ⟨h, by omega⟩, by omega, by omega⟩
theorem same_half {x y e J : Int} (h : Same (x.tdiv 2) y e J) : ∃ e', Same x y e' (2 * J) := by
  obtain ⟨h1, h2, h3, h4, h5⟩ := h
  have hd := Int.mul_tdiv_add_tmod x 2
  refine ⟨x - 2 * J * y, ?_, ?_, ?_, ?_, ?_⟩
  · omega
  all_goals
    rw [Int.mul_assoc]
    generalize J * y = P at *
    rcases Int.le_total 0 x with hx | hx
    · have t1 := Int.tmod_nonneg 2 hx
      have t2 := Int.tmod_lt_of_pos x (b := 2) (by decide)
      omega
    · have t1 : x.tmod 2 ≤ 0 := by have := Int.tmod_nonneg (a := -x) 2 (by omega); rw [Int.neg_tmod] at this; omega
      have t2 : -2 < x.tmod 2 := by have := Int.tmod_lt_of_pos (-x) (b := 2) (by decide); rw [Int.neg_tmod] at this; omega
      omega
structure Near (p v e : Pt) (J : Int) : Prop where
  x : Same p.x v.x e.x J
  y : Same p.y v.y e.y J
  z : Same p.z v.z e.z J
theorem halve_near : ∀ (k : Nat) (p : Pt), ∃ (J : Int) (e : Pt), 1 ≤ J ∧ Near p (halveF k p) e J ∧ (J = 1 ∨ ((halveF k p).inB 524287 = false ∧ p.inB 1048576 = false))
  | 0, p => ⟨1, Pt.O, by omega, ⟨same_one _, same_one _, same_one _⟩, Or.inl rfl⟩
  | k + 1, p => by
    cases hp : p.inB 1048576 with
    | true =>
      have e : halveF (k + 1) p = p := by simp [halveF, hp]
      rw [e]
      exact ⟨1, Pt.O, by omega, ⟨same_one _, same_one _, same_one _⟩, Or.inl rfl⟩
    | false =>
      have e : halveF (k + 1) p = halveF k (p.by 2) := by simp [halveF, hp]
      rw [e]
      obtain ⟨J, e', hJ, hN, hc⟩ := halve_near k (p.by 2)
      obtain ⟨ex, hx⟩ := same_half hN.x
      obtain ⟨ey, hy⟩ := same_half hN.y
      obtain ⟨ez, hz⟩ := same_half hN.z
      refine ⟨2 * J, ⟨ex, ey, ez⟩, by omega, ⟨hx, hy, hz⟩, Or.inr ⟨?_, rfl⟩⟩
      rcases hc with rfl | hc
      · -- it was made half once
        rw [Pt.inB_no] at hp ⊢
        intro h9
        have hx1 := hN.x.1
        have hy1 := hN.y.1
        have hz1 := hN.z.1
        have q1 := hN.x.2.2.2
        have q2 := hN.y.2.2.2
        have q3 := hN.z.2.2.2
        rw [show (p.by 2).x = p.x.tdiv 2 from rfl] at hx1
        rw [show (p.by 2).y = p.y.tdiv 2 from rfl] at hy1
        rw [show (p.by 2).z = p.z.tdiv 2 from rfl] at hz1
        apply hp
        have key : ∀ x : Int, -524287 ≤ x.tdiv 2 ∧ x.tdiv 2 ≤ 524287 → -1048576 ≤ x ∧ x ≤ 1048576 := fun x h => by
          have hd := Int.mul_tdiv_add_tmod x 2
          rcases Int.le_total 0 x with hx | hx
          · have t2 := Int.tmod_lt_of_pos x (b := 2) (by decide)
            omega
          · have t2 : -2 < x.tmod 2 := by have := Int.tmod_lt_of_pos (-x) (b := 2) (by decide); rw [Int.neg_tmod] at this; omega
            omega
        exact ⟨key _ (by omega), key _ (by omega), key _ (by omega)⟩
      · exact hc.1
/-- What is left out of a direction by making it short. -/
theorem low_mul (p : Pt) : ∃ g : Int, 1 ≤ g ∧ p.x = g * p.low.x ∧ p.y = g * p.low.y ∧ p.z = g * p.low.z := by
  by_cases h : p.g = 0
  · have e : p = Pt.O := g_zero.1 h
    subst e
    exact ⟨1, by omega, by decide, by decide, by decide⟩
  · refine ⟨(p.g : Int), by omega, ?_⟩
    have hl : p.low = p.by p.g := by unfold Pt.low; rw [if_neg h]
    rw [hl]
    obtain ⟨h1, h2, h3⟩ := g_dvd p
    simp only [Pt.by]
    have key : ∀ x : Int, p.g ∣ x.natAbs → x = (p.g : Int) * x.tdiv (p.g : Int) := fun x hx => by
      have hd : (p.g : Int) ∣ x := Int.ofNat_dvd_left.2 hx
      exact (Int.mul_tdiv_cancel' hd).symm
    exact ⟨key _ h1, key _ h2, key _ h3⟩

theorem mul_pos9 {a b : Int} (ha : 1 ≤ a) (hb : 1 ≤ b) : 1 ≤ a * b := by have := Int.mul_le_mul ha hb (by decide) (by omega); omega
theorem sgn_mul {u v e m h g J : Int} (hS : Same u v e J) (hv : v = h * m) (hh : 1 ≤ h) (hg : 1 ≤ g) : 0 ≤ m * (g * e) := by
  obtain ⟨_, h1, h2, _, _⟩ := hS
  have pos : 0 ≤ h * m → 0 ≤ m := fun h9 => by
    apply Int.not_lt.1
    intro hm
    have := Int.mul_le_mul_of_nonneg_left (show m ≤ -1 by omega) (show 0 ≤ h by omega)
    omega
  have neg : h * m ≤ 0 → m ≤ 0 := fun h9 => by
    apply Int.not_lt.1
    intro hm
    have := Int.mul_le_mul_of_nonneg_left (show 1 ≤ m by omega) (show 0 ≤ h by omega)
    omega
  rcases Int.le_total 0 u with hu | hu
  · obtain ⟨a, b⟩ := h1 hu
    exact Int.mul_nonneg (pos (by omega)) (Int.mul_nonneg (by omega) b)
  · obtain ⟨a, b⟩ := h2 hu
    have k1 := neg (by omega)
    have k2 : g * e ≤ 0 := by have := Int.mul_nonneg (show 0 ≤ g by omega) (show 0 ≤ -e by omega); rw [Int.mul_neg] at this; omega
    have := Int.mul_nonneg (show 0 ≤ -m by omega) (show 0 ≤ -(g * e) by omega)
    rwa [Int.neg_mul_neg] at this
structure Apx (D m ep : Pt) (lm : Int) : Prop where
  pos : 1 ≤ lm
  x : D.x = lm * m.x + ep.x
  y : D.y = lm * m.y + ep.y
  z : D.z = lm * m.z + ep.z
  sx : 0 ≤ m.x * ep.x
  sy : 0 ≤ m.y * ep.y
  sz : 0 ≤ m.z * ep.z
  less : ep = Pt.O ∨ (ep.inB 15 = true ∧ D.inB 1048576 = false)
theorem far_part {d u v e g J : Int} (hd : d = g * u) (hS : Same u v e J) (hg : 1 ≤ g) (hJ : 1 ≤ J) (hv : ¬ (-524287 ≤ v ∧ v ≤ 524287)) (hb : -8388607 ≤ d ∧ d ≤ 8388607) : g * J ≤ 15 := by
  obtain ⟨h1, h2, h3, h4, h5⟩ := hS
  have hgj := mul_pos9 hg hJ
  have e1 : d = g * J * v + g * e := by rw [hd, h1, Int.mul_add, Int.mul_assoc]
  apply Int.not_lt.1
  intro hlt
  rcases Int.le_total 0 u with hu | hu
  · obtain ⟨a, b⟩ := h2 hu
    have k1 := Int.mul_le_mul (show (16 : Int) ≤ g * J by omega) (show (524288 : Int) ≤ v by omega) (by decide) (by omega)
    have k2 := Int.mul_nonneg (show 0 ≤ g by omega) b
    omega
  · obtain ⟨a, b⟩ := h3 hu
    have k1 := Int.mul_le_mul (show (16 : Int) ≤ g * J by omega) (show (524288 : Int) ≤ -v by omega) (by decide) (by omega)
    have k2 := Int.mul_nonneg (show 0 ≤ g by omega) (show 0 ≤ -e by omega)
    rw [Int.mul_neg] at k1 k2
    omega
theorem short_near {D : Pt} (h : D.inB 8388607 = true) : ∃ (lm : Int) (ep : Pt), Apx D D.short ep lm := by
  have hs : D.short = D.low.half.low := by unfold Pt.short; rw [if_pos (inB_mono h (by decide))]
  obtain ⟨g, hg, gx, gy, gz⟩ := low_mul D
  obtain ⟨J, e, hJ, hN, hc⟩ := halve_near 43 D.low
  obtain ⟨k, hk, kx, ky, kz⟩ := low_mul (halveF 43 D.low)
  rw [show (halveF 43 D.low).low = D.short by rw [hs]; rfl] at kx ky kz
  rw [Pt.inB_iff] at h
  have mk : ∀ {d u v m ee : Int}, d = g * u → Same u v ee J → v = k * m → d = g * (J * k) * m + g * ee := fun {d u v m ee} h1 h2 h3 => by
    rw [h1, h2.1, h3, Int.mul_add]
    simp only [Int.mul_assoc]
  refine ⟨g * (J * k), ⟨g * e.x, g * e.y, g * e.z⟩, mul_pos9 hg (mul_pos9 hJ hk), mk gx hN.x kx, mk gy hN.y ky, mk gz hN.z kz, sgn_mul hN.x kx hk hg, sgn_mul hN.y ky hk hg, sgn_mul hN.z kz hk hg, ?_⟩
  rcases hc with rfl | ⟨h1, h2⟩
  · left
    have q : ∀ {u v ee : Int}, Same u v ee 1 → g * ee = 0 := fun {u v ee} hS => by
      have : ee = 0 := by have := hS.2.2.2; omega
      rw [this, Int.mul_zero]
    rw [q hN.x, q hN.y, q hN.z]
    rfl
  · right
    rw [Pt.inB_no] at h1 h2
    have hgJ : g * J ≤ 15 := by
      by_cases hx : -524287 ≤ (halveF 43 D.low).x ∧ (halveF 43 D.low).x ≤ 524287
      · by_cases hy : -524287 ≤ (halveF 43 D.low).y ∧ (halveF 43 D.low).y ≤ 524287
        · exact far_part gz hN.z hg hJ (fun hz => h1 ⟨hx, hy, hz⟩) h.2.2
        · exact far_part gy hN.y hg hJ hy h.2.1
      · exact far_part gx hN.x hg hJ hx h.1
    have le : ∀ {u v ee : Int}, Same u v ee J → -15 ≤ g * ee ∧ g * ee ≤ 15 := fun {u v ee} hS => by
      obtain ⟨_, _, _, h4, h5⟩ := hS
      have k1 := Int.mul_le_mul_of_nonneg_left (show ee ≤ J by omega) (show 0 ≤ g by omega)
      have k2 := Int.mul_le_mul_of_nonneg_left (show -J ≤ ee by omega) (show 0 ≤ g by omega)
      rw [Int.mul_neg] at k2
      omega
    refine ⟨(Pt.inB_iff _ _).2 ⟨le hN.x, le hN.y, le hN.z⟩, (Pt.inB_no _ _).2 fun h9 => h2 ?_⟩
    have back : ∀ {d u : Int}, d = g * u → -1048576 ≤ d ∧ d ≤ 1048576 → -1048576 ≤ u ∧ u ≤ 1048576 := fun {d u} hd hb => by
      rcases Int.le_total 0 u with hu | hu
      · have := Int.mul_le_mul_of_nonneg_right hg hu
        omega
      · have := Int.mul_le_mul_of_nonneg_right hg (show 0 ≤ -u by omega)
        simp only [Int.mul_neg] at this
        omega
    exact ⟨back gx h9.1, back gy h9.2.1, back gz h9.2.2⟩

/-- Squares. -/
theorem lt_of_sq {a b : Int} (hb : 0 ≤ b) (h : a * a < b * b) : a < b := by
  apply Int.not_le.1
  intro hle
  have := Int.mul_le_mul hle hle hb (by omega)
  omega
theorem lagrange (n D : Pt) : n.dot n * D.dot D = n.dot D * n.dot D + (n.cross D).dot (n.cross D) := by
  unfold Pt.dot Pt.cross
  dsimp only
  grind
theorem cauchy (n D : Pt) : n.dot D * n.dot D ≤ n.dot n * D.dot D := by
  have := lagrange n D
  have := dot_self (n.cross D)
  omega

theorem up_is {n : Pt} (h : 524288 ≤ dn n) : 524288 ≤ up n ∧ n.dot n ≤ up n * up n ∧ (up n - 1) * (up n - 1) < n.dot n := by
  obtain ⟨h0, h1, h2⟩ := dn_is n
  unfold up
  split
  · next e =>
    refine ⟨h, by omega, ?_⟩
    have e1 : (dn n - 1) * (dn n - 1) = dn n * dn n - 2 * dn n + 1 := by grind
    omega
  · next e =>
    refine ⟨by omega, by omega, ?_⟩
    rw [show dn n + 1 - 1 = dn n by omega]
    omega
theorem cross_scale (m D ep : Pt) (c lm : Int) (hA : Apx D m ep lm) : (Pt.cross ⟨c * m.x, c * m.y, c * m.z⟩ D).dot (Pt.cross ⟨c * m.x, c * m.y, c * m.z⟩ D) = c * c * ((m.cross ep).dot (m.cross ep)) := by
  unfold Pt.dot Pt.cross
  dsimp only
  rw [hA.x, hA.y, hA.z]
  grind
theorem dot_scale (m : Pt) (c : Int) : Pt.dot ⟨c * m.x, c * m.y, c * m.z⟩ ⟨c * m.x, c * m.y, c * m.z⟩ = c * c * m.dot m := by
  unfold Pt.dot
  dsimp only
  grind
/-- By how much a direction that is made short falls short of the distance. -/
theorem ball_le {m D ep : Pt} {c lm : Int} (hA : Apx D m ep lm) : Pt.dot ⟨c * m.x, c * m.y, c * m.z⟩ ⟨c * m.x, c * m.y, c * m.z⟩ * (D.dot D - ep.dot ep) ≤ Pt.dot ⟨c * m.x, c * m.y, c * m.z⟩ D * Pt.dot ⟨c * m.x, c * m.y, c * m.z⟩ D := by
  have h1 := lagrange ⟨c * m.x, c * m.y, c * m.z⟩ D
  rw [cross_scale m D ep c lm hA] at h1
  have h2 := lagrange m ep
  have h3 := sq0 (m.dot ep)
  have h4 : (m.cross ep).dot (m.cross ep) ≤ m.dot m * ep.dot ep := by omega
  have h5 := Int.mul_le_mul_of_nonneg_left h4 (sq0 c)
  rw [← Int.mul_assoc, ← dot_scale m c] at h5
  rw [Int.mul_sub]
  omega
theorem dot_pos {m D ep : Pt} {c lm : Int} (hA : Apx D m ep lm) (hc : 0 ≤ c) : 0 ≤ Pt.dot ⟨c * m.x, c * m.y, c * m.z⟩ D := by
  have e : Pt.dot ⟨c * m.x, c * m.y, c * m.z⟩ D = c * (lm * m.dot m + (m.x * ep.x + m.y * ep.y + m.z * ep.z)) := by
    unfold Pt.dot
    dsimp only
    rw [hA.x, hA.y, hA.z]
    grind
  rw [e]
  have h1 := hA.sx
  have h2 := hA.sy
  have h3 := hA.sz
  have h4 := Int.mul_nonneg (show 0 ≤ lm by have := hA.pos; omega) (dot_self m)
  exact Int.mul_nonneg hc (by omega)
theorem ball_upper {N2 far R u g : Int} (hu : 1 ≤ u) (h1 : N2 ≤ u * u) (hf : 0 ≤ far) (hC : R * R ≤ N2 * far) (hg : 0 ≤ g) (h2 : u * g ≤ R) : g * g ≤ far := by
  have k0 : 0 ≤ u * g := Int.mul_nonneg (by omega) hg
  have k1 := Int.mul_le_mul h2 h2 k0 (by omega)
  have k2 := Int.mul_le_mul_of_nonneg_right h1 hf
  have e1 : u * g * (u * g) = u * u * (g * g) := by grind
  have hpos : 0 < u * u := by have := mul_pos9 hu hu; omega
  exact Int.le_of_mul_le_mul_left (a := u * u) (by omega) hpos
theorem ball_lower {N2 far R u g E : Int} (hu : 524288 ≤ u) (h1 : (u - 1) * (u - 1) < N2) (hR : 0 ≤ R) (hC : N2 * (far - E) ≤ R * R) (hg : 0 ≤ g) (h2 : R < u * (g + 1)) (hE : E = 0 ∨ (0 ≤ E ∧ E ≤ 675 ∧ 1099511627776 ≤ far)) : far ≤ (g + 2 + g / 65536) * (g + 2 + g / 65536) := by
  obtain ⟨f, hf⟩ : ∃ f, f = g / 65536 := ⟨_, rfl⟩
  have f1 : 65536 * f ≤ g ∧ g ≤ 65536 * f + 65535 := by omega
  rw [← hf]
  clear hf
  apply Int.not_lt.1
  intro hlt
  have u0 : 0 ≤ u * (g + 1) := Int.mul_nonneg (by omega) (by omega)
  have r2 : R * R < u * (g + 1) * (u * (g + 1)) := by
    have := Int.mul_le_mul (show R ≤ u * (g + 1) - 1 by omega) (show R ≤ u * (g + 1) - 1 by omega) hR (by omega)
    have e : (u * (g + 1) - 1) * (u * (g + 1) - 1) = u * (g + 1) * (u * (g + 1)) - 2 * (u * (g + 1)) + 1 := by grind
    omega
  have u1 : (0 : Int) ≤ (u - 1) * (u - 1) := sq0 _
  -- whatever is below far - E is below the other side
  have key : ∀ t : Int, 0 ≤ t → t * t ≤ far - E → t * (u - 1) < u * (g + 1) := fun t ht hle => by
    refine lt_of_sq u0 ?_
    have k1 := Int.mul_le_mul_of_nonneg_left hle u1
    have k2 : (u - 1) * (u - 1) * (far - E) ≤ N2 * (far - E) := Int.mul_le_mul_of_nonneg_right (by omega) (by have := sq0 t; omega)
    have e : t * (u - 1) * (t * (u - 1)) = (u - 1) * (u - 1) * (t * t) := by grind
    omega
  have fu := Int.mul_le_mul_of_nonneg_right (show (524288 : Int) ≤ u by omega) (show 0 ≤ f by omega)
  rcases hE with rfl | ⟨hE0, hE1, hfar⟩
  · have k := key (g + 2 + f) (by omega) (by omega)
    have e1 : (g + 2 + f) * (u - 1) = u * g + 2 * u + u * f - g - 2 - f := by grind
    have e2 : u * (g + 1) = u * g + u := by grind
    omega
  · -- it is far
    have hg1 : 65536 ≤ g := by
      apply Int.not_lt.1
      intro h9
      have k := key 740000 (by omega) (by omega)
      have e2 : u * (g + 1) ≤ u * 65536 := Int.mul_le_mul_of_nonneg_left (by omega) (by omega)
      omega
    have hT : (g + 1 + f) * (g + 1 + f) ≤ far - E := by
      have e3 : (g + 2 + f) * (g + 2 + f) = (g + 1 + f) * (g + 1 + f) + 2 * (g + 1 + f) + 1 := by grind
      omega
    have k := key (g + 1 + f) (by omega) hT
    have e1 : (g + 1 + f) * (u - 1) = u * g + u + u * f - g - 1 - f := by grind
    have e2 : u * (g + 1) = u * g + u := by grind
    omega
/-- What is made long is the short one, times a number. -/
theorem lng_times : ∀ (k : Nat) (p : Pt), ∃ c : Int, 1 ≤ c ∧ lngF k p = ⟨c * p.x, c * p.y, c * p.z⟩
  | 0, p => ⟨1, by omega, by simp [lngF]⟩
  | k + 1, p => by
    unfold lngF
    split
    · obtain ⟨c, hc, e⟩ := lng_times k p.dbl
      refine ⟨2 * c, by omega, ?_⟩
      rw [e]
      unfold Pt.dbl
      simp only [Pt.mk.injEq]
      refine ⟨by grind, by grind, by grind⟩
    · exact ⟨1, by omega, by simp⟩

theorem dn_neg9 (n : Pt) : dn n.neg = dn n := by unfold dn; rw [show n.neg.dot n.neg = n.dot n by unfold Pt.neg Pt.dot; dsimp only; simp only [Int.neg_mul_neg]]
theorem sub_dot (n p q : Pt) : n.dot (q.sub p) = n.dot q - n.dot p := by unfold Pt.dot Pt.sub; dsimp only; grind
theorem far_of {D : Pt} (h : D.inB 1048576 = false) : 1099511627776 ≤ D.dot D := by
  rw [Pt.inB_no] at h
  have big : ∀ x : Int, ¬ (-1048576 ≤ x ∧ x ≤ 1048576) → 1099511627776 ≤ x * x := fun x hx => by
    rcases Int.le_total 0 x with h | h
    · have := Int.mul_le_mul (show (1048576 : Int) ≤ x by omega) (show (1048576 : Int) ≤ x by omega) (by decide) (by omega)
      omega
    · have := Int.mul_le_mul (show (1048576 : Int) ≤ -x by omega) (show (1048576 : Int) ≤ -x by omega) (by decide) (by omega)
      rw [Int.neg_mul_neg] at this
      omega
  have q1 := sq0 D.x
  have q2 := sq0 D.y
  have q3 := sq0 D.z
  unfold Pt.dot
  by_cases hx : -1048576 ≤ D.x ∧ D.x ≤ 1048576
  · by_cases hy : -1048576 ≤ D.y ∧ D.y ≤ 1048576
    · have := big D.z (fun hz => h ⟨hx, hy, hz⟩); omega
    · have := big D.y hy; omega
  · have := big D.x hx; omega
/-- What is told of two balls. -/
theorem ball_told (p q : Pt) (r s : Int) (hD : (q.sub p).inB 8388607 = true) : ∃ g : Int, (told ⟨[p], [], [], r⟩ ⟨[q], [], [], s⟩).2 = g - r - s ∧ 0 ≤ g ∧ g ≤ 16777216 ∧ g * g ≤ (q.sub p).dot (q.sub p) ∧ (q.sub p).dot (q.sub p) ≤ (g + 2 + g / 65536) * (g + 2 + g / 65536) := by
  have hC : candL ⟨[p], [], [], r⟩ ⟨[q], [], [], s⟩ = [(q.sub p).short] := by
    unfold candL crossL wayL wayR wayG wayD
    simp
  obtain ⟨D, hDe⟩ : ∃ D, D = q.sub p := ⟨_, rfl⟩
  rw [← hDe] at hD hC ⊢
  have hI : D.inB 4398046511104 = true := inB_mono hD (by decide)
  by_cases hO : D = Pt.O
  · have hb : both (candL ⟨[p], [], [], r⟩ ⟨[q], [], [], s⟩) = [] := by
      rw [hC, hO]
      unfold both Pt.lng
      rw [short_O, short_O, if_pos rfl]
      rfl
    have ht : told ⟨[p], [], [], r⟩ ⟨[q], [], [], s⟩ = (⟨0, 0, 1048576⟩, -r - s) := by unfold told; rw [hb]; rfl
    refine ⟨0, by rw [ht]; show -r - s = 0 - r - s; omega, by omega, by omega, ?_, ?_⟩
    · rw [hO]; decide
    · rw [hO]; decide
  · have hm : D.short ≠ Pt.O := short_ne hI hO
    obtain ⟨lm, ep, hA⟩ := short_near hD
    obtain ⟨c, hc, hl⟩ := lng_times 20 D.short
    have hn : D.short.lng = ⟨c * D.short.x, c * D.short.y, c * D.short.z⟩ := by
      unfold Pt.lng
      rw [short_again, if_neg hm]
      exact hl
    have hnO : D.short.lng ≠ Pt.O := by
      unfold Pt.lng
      rw [short_again, if_neg hm]
      intro e9
      have := (lngF_is 20 D.short (Nat.le_refl _) (short_in D) (far_zero hm)).2
      rw [e9] at this
      exact absurd this (by decide)
    obtain ⟨hin, hdn⟩ := lng_far hnO
    obtain ⟨u1, u2, u3⟩ := up_is hdn
    have hb : both (candL ⟨[p], [], [], r⟩ ⟨[q], [], [], s⟩) = [D.short.lng, D.short.lng.neg] := by
      rw [hC]
      unfold both
      rw [if_neg hnO]
      rfl
    have hR := dot_pos (c := c) hA (by omega)
    have hle := ball_le (c := c) hA
    have hca := cauchy D.short.lng D
    rw [← hn] at hR hle
    have hroom : room D.short.lng [p] [q] = D.short.lng.dot D := by
      unfold room loP hiP
      simp only [List.length_cons, List.length_nil, Nat.zero_add, Nat.sub_self, loK, hiK]
      rw [hDe, sub_dot]
      rfl
    have hroom2 : room D.short.lng.neg [p] [q] = -(D.short.lng.dot D) := by
      unfold room loP hiP
      simp only [List.length_cons, List.length_nil, Nat.zero_add, Nat.sub_self, loK, hiK]
      have h9 := sub_dot D.short.lng p q
      rw [← hDe] at h9
      rw [neg_dot, neg_dot, h9]
      show -(D.short.lng.dot q) - -(D.short.lng.dot p) = -(D.short.lng.dot q - D.short.lng.dot p)
      omega
    generalize D.short.lng = n at *
    obtain ⟨R, hRe⟩ : ∃ R, R = n.dot D := ⟨_, rfl⟩
    rw [← hRe] at hR hle hca hroom hroom2
    have hg1 : gapZ [p] [q] r s n = R / up n - r - s := by
      unfold gapZ gap0
      rw [hroom, if_pos hR, Int.tdiv_eq_ediv_of_nonneg hR]
    have hg2 : gapZ [p] [q] r s n.neg ≤ 0 - r - s := by
      unfold gapZ gap0
      rw [hroom2, dn_neg9]
      by_cases hz : 0 ≤ -R
      · have : R = 0 := by omega
        rw [if_pos hz, this]
        simp
      · rw [if_neg hz]
        have := Int.tdiv_nonneg (a := dn n - 1 - -R) (b := dn n) (by omega) (by omega)
        omega
    have hq0 : 0 ≤ R / up n := Int.ediv_nonneg hR (by omega)
    have hbest : bestL (gapZ [p] [q] r s) none [n, n.neg] = some (n, gapZ [p] [q] r s n) := by
      unfold bestL
      have : ¬ gapZ [p] [q] r s n < gapZ [p] [q] r s n.neg := by omega
      simp [List.foldl, bestS, this]
    have ht : told ⟨[p], [], [], r⟩ ⟨[q], [], [], s⟩ = (n, gapZ [p] [q] r s n) := by
      rw [← hb] at hbest
      unfold told
      rw [show bestL (gapZ (Cr.mk [p] [] [] r).P (Cr.mk [q] [] [] s).P (Cr.mk [p] [] [] r).r (Cr.mk [q] [] [] s).r) none (both (candL ⟨[p], [], [], r⟩ ⟨[q], [], [], s⟩)) = some (n, gapZ [p] [q] r s n) from hbest]
    have m1 := Int.mul_ediv_self_le (x := R) (k := up n) (by omega)
    have m2 := Int.lt_mul_ediv_self_add (x := R) (k := up n) (by omega)
    have far0 := dot_self D
    have hA1 := ball_upper (u := up n) (by omega) u2 far0 hca hq0 m1
    have hD2 : D.dot D ≤ 281474976710656 := by have := (dot_inC hD hD (C := 281474976710656) (by decide)).2; omega
    refine ⟨R / up n, by rw [ht]; exact hg1, hq0, ?_, hA1, ?_⟩
    · apply Int.not_lt.1
      intro h9
      have := Int.mul_le_mul (show (16777217 : Int) ≤ R / up n by omega) (show (16777217 : Int) ≤ R / up n by omega) (by decide) (by omega)
      omega
    · refine ball_lower (E := ep.dot ep) u1 u3 hR hle hq0 (by rw [Int.mul_add]; omega) ?_
      rcases hA.less with e | ⟨h1, h2⟩
      · left; rw [e]; decide
      · right
        exact ⟨dot_self ep, (dot_inC h1 h1 (C := 675) (by decide)).2, far_of h2⟩
end Go.Proofs.Ythcdpngkoejgpaa
