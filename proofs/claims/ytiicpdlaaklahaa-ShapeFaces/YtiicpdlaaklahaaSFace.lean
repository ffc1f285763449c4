/- Each way out of points that are not of one plane leads through a face: plain numbers. -/
import Derived.Test.YtiicpdlaaklahaaSMath3
namespace Go.Proofs.Ytiicpdlaaklahaa
set_option linter.unusedVariables false

/-- All points lie behind the plane through a across n. -/
def Sup (L : List Pt) (n a : Pt) : Prop := ∀ m ∈ L, n.dot (m.sub a) ≤ 0
def comb (g : Int) (n : Pt) (f : Int) (w : Pt) : Pt := ⟨g * n.x + f * w.x, g * n.y + f * w.y, g * n.z + f * w.z⟩
theorem comb_dot (g f : Int) (n w d : Pt) : (comb g n f w).dot d = g * n.dot d + f * w.dot d := by simp only [comb, Pt.dot]; grind
theorem dot_comm (p q : Pt) : p.dot q = q.dot p := by simp only [Pt.dot]; grind
theorem self_nonneg (k : Int) : 0 ≤ k * k := by
  rcases Int.le_total 0 k with h | h
  · exact Int.mul_nonneg h h
  · exact Int.mul_nonneg_of_nonpos_of_nonpos h h
theorem dot_self_pos {p : Pt} (h : p ≠ Pt.O) : 0 < p.dot p := by
  have hx : 0 ≤ p.x * p.x := self_nonneg _
  have hy : 0 ≤ p.y * p.y := self_nonneg _
  have hz : 0 ≤ p.z * p.z := self_nonneg _
  have sq : ∀ k : Int, k ≠ 0 → 0 < k * k := fun k hk => by
    rcases Int.lt_or_gt_of_ne hk with h | h
    · exact Int.mul_pos_of_neg_of_neg h h
    · exact Int.mul_pos h h
  unfold Pt.dot
  rcases Pt.ne_O h with k | k | k
  · have := sq _ k; omega
  · have := sq _ k; omega
  · have := sq _ k; omega
theorem max_ratio (f g : Pt → Int) : ∀ L : List Pt, (∃ m ∈ L, 0 < f m) → ∃ m1 ∈ L, 0 < f m1 ∧ ∀ m ∈ L, 0 < f m → g m * f m1 ≤ g m1 * f m
  | [], h => by obtain ⟨m, hm, _⟩ := h; cases hm
  | p :: r, h => by
    by_cases hr : ∃ m ∈ r, 0 < f m
    · obtain ⟨m1, hm1, h1, hall⟩ := max_ratio f g r hr
      by_cases hp : 0 < f p ∧ g m1 * f p < g p * f m1
      · refine ⟨p, by simp, hp.1, fun m hm hf => ?_⟩
        rw [List.mem_cons] at hm
        rcases hm with rfl | hm
        · exact Int.le_refl _
        · have a1 := hall m hm hf
          have b1 := Int.mul_le_mul_of_nonneg_right a1 (Int.le_of_lt hp.1)
          have b2 := Int.mul_le_mul_of_nonneg_right (Int.le_of_lt hp.2) (Int.le_of_lt hf)
          have e : g m * f p * f m1 ≤ g p * f m * f m1 := by
            have e1 : g m * f p * f m1 = g m * f m1 * f p := by grind
            have e2 : g m1 * f m * f p = g m1 * f p * f m := by grind
            have e3 : g p * f m1 * f m = g p * f m * f m1 := by grind
            omega
          exact Int.le_of_mul_le_mul_right e h1
      · refine ⟨m1, by simp [hm1], h1, fun m hm hf => ?_⟩
        rw [List.mem_cons] at hm
        rcases hm with rfl | hm
        · exact Int.not_lt.1 fun e => hp ⟨hf, e⟩
        · exact hall m hm hf
    · obtain ⟨m, hm, hf⟩ := h
      rw [List.mem_cons] at hm
      rcases hm with rfl | hm
      · refine ⟨m, by simp, hf, fun k hk hfk => ?_⟩
        rw [List.mem_cons] at hk
        rcases hk with rfl | hk
        · exact Int.le_refl _
        · exact absurd ⟨k, hk, hfk⟩ hr
      · exact absurd ⟨m, hm, hf⟩ hr
/-- No plane through a has all points. -/
def Thick (L : List Pt) (a : Pt) : Prop := ∀ k : Pt, k ≠ Pt.O → ∃ m ∈ L, k.dot (m.sub a) ≠ 0
theorem thick_of {L : List Pt} {a : Pt} (ha : a ∈ L) (h : ¬ flatAll L) : Thick L a := by
  intro k hk
  refine Classical.byContradiction fun hno => h ?_
  have d : ∀ m ∈ L, k.dot (m.sub a) = 0 := fun m hm => Classical.byContradiction fun e => hno ⟨m, hm, e⟩
  intro p hp q hq r hr s hs
  have dd : ∀ m ∈ L, k.dot (m.sub p) = 0 := by
    intro m hm
    have : k.dot (m.sub p) = k.dot (m.sub a) - k.dot (p.sub a) := by simp only [Pt.dot, Pt.sub]; grind
    rw [this, d m hm, d p hp]; rfl
  exact det_plane hk (dd q hq) (dd r hr) (dd s hs)
theorem ne_of_dot {n u : Pt} (h : 0 < n.dot u) : n ≠ Pt.O := fun e => by subst e; simp [Pt.dot, Pt.O] at h
theorem tilt {L : List Pt} {n w a u : Pt} (hs : Sup L n a) (hz : ∀ m ∈ L, n.dot (m.sub a) = 0 → w.dot (m.sub a) = 0) (hw : w ≠ Pt.O) (hnw : n.dot w = 0) (ht : Thick L a) (hnu : 0 < n.dot u) :
    ∃ n', Sup L n' a ∧ 0 < n'.dot u ∧ (∃ m ∈ L, n.dot (m.sub a) < 0 ∧ n'.dot (m.sub a) = 0) ∧ ∀ d, n.dot d = 0 → w.dot d = 0 → n'.dot d = 0 := by
  have hn := ne_of_dot hnu
  obtain ⟨f, hf⟩ : ∃ f : Pt → Int, ∀ m, f m = -n.dot (m.sub a) := ⟨_, fun _ => rfl⟩
  obtain ⟨g, hg⟩ : ∃ g : Pt → Int, ∀ m, g m = w.dot (m.sub a) := ⟨_, fun _ => rfl⟩
  have hex : ∃ m ∈ L, 0 < f m := by
    obtain ⟨m, hm, h⟩ := ht n hn
    have := hs m hm
    exact ⟨m, hm, by rw [hf]; omega⟩
  obtain ⟨m1, hm1, f1, r1⟩ := max_ratio f g L hex
  obtain ⟨m2, hm2, f2, r2⟩ := max_ratio f (fun m => -g m) L hex
  have fz : ∀ m ∈ L, 0 ≤ f m := fun m hm => by have := hs m hm; rw [hf]; omega
  have gz : ∀ m ∈ L, f m = 0 → g m = 0 := fun m hm e => by rw [hg]; exact hz m hm (by have := hf m; omega)
  have s1 : ∀ m ∈ L, (comb (g m1) n (f m1) w).dot (m.sub a) ≤ 0 := by
    intro m hm
    rw [comb_dot, ← hg]
    have e : n.dot (m.sub a) = -f m := by rw [hf]; omega
    rw [e]
    rcases Int.lt_or_eq_of_le (fz m hm) with h | h
    · have := r1 m hm h
      have e2 : g m1 * -f m + f m1 * g m = g m * f m1 - g m1 * f m := by grind
      omega
    · rw [gz m hm h.symm, ← h]; simp
  have s2 : ∀ m ∈ L, (comb (-g m2) n (-f m2) w).dot (m.sub a) ≤ 0 := by
    intro m hm
    rw [comb_dot, ← hg]
    have e : n.dot (m.sub a) = -f m := by rw [hf]; omega
    rw [e]
    rcases Int.lt_or_eq_of_le (fz m hm) with h | h
    · have := r2 m hm h
      have e2 : -g m2 * -f m + -f m2 * g m = -g m * f m2 - -g m2 * f m := by grind
      omega
    · rw [gz m hm h.symm, ← h]; simp
  have key : ∀ d : Pt, f m2 * (comb (g m1) n (f m1) w).dot d + f m1 * (comb (-g m2) n (-f m2) w).dot d = (f m2 * g m1 - f m1 * g m2) * n.dot d := by
    intro d
    rw [comb_dot, comb_dot]; grind
  have t1 : (comb (g m1) n (f m1) w).dot (m1.sub a) = 0 := by
    rw [comb_dot, ← hg]
    have e : n.dot (m1.sub a) = -f m1 := by rw [hf]; omega
    rw [e]; grind
  have t2 : (comb (-g m2) n (-f m2) w).dot (m2.sub a) = 0 := by
    rw [comb_dot, ← hg]
    have e : n.dot (m2.sub a) = -f m2 := by rw [hf]; omega
    rw [e]; grind
  have van : ∀ (x y : Int) (d : Pt), n.dot d = 0 → w.dot d = 0 → (comb x n y w).dot d = 0 := by
    intro x y d h1 h2
    rw [comb_dot, h1, h2]; simp
  have n1 : n.dot (m1.sub a) < 0 := by have := hf m1; omega
  have n2 : n.dot (m2.sub a) < 0 := by have := hf m2; omega
  by_cases p1 : 0 < (comb (g m1) n (f m1) w).dot u
  · exact ⟨_, s1, p1, ⟨m1, hm1, n1, t1⟩, van _ _⟩
  · by_cases p2 : 0 < (comb (-g m2) n (-f m2) w).dot u
    · exact ⟨_, s2, p2, ⟨m2, hm2, n2, t2⟩, van _ _⟩
    · exfalso
      have hD0 : 0 ≤ f m2 * g m1 - f m1 * g m2 := by
        have := r1 m2 hm2 f2
        have e : g m2 * f m1 = f m1 * g m2 := Int.mul_comm _ _
        have e' : g m1 * f m2 = f m2 * g m1 := Int.mul_comm _ _
        omega
      have ku := key u
      have q1 : f m2 * (comb (g m1) n (f m1) w).dot u ≤ 0 := Int.mul_nonpos_of_nonneg_of_nonpos (Int.le_of_lt f2) (Int.not_lt.1 p1)
      have q2 : f m1 * (comb (-g m2) n (-f m2) w).dot u ≤ 0 := Int.mul_nonpos_of_nonneg_of_nonpos (Int.le_of_lt f1) (Int.not_lt.1 p2)
      have hD : f m2 * g m1 - f m1 * g m2 = 0 := by
        rcases Int.lt_or_eq_of_le hD0 with h | h
        · have := Int.mul_pos h hnu
          omega
        · exact h.symm
      have kne : comb (g m1) n (f m1) w ≠ Pt.O := by
        refine ne_of_dot (u := w) ?_
        rw [comb_dot, hnw, Int.mul_zero, Int.zero_add]
        exact Int.mul_pos f1 (dot_self_pos hw)
      obtain ⟨m, hm, hne⟩ := ht _ kne
      have km := key (m.sub a)
      rw [hD, Int.zero_mul] at km
      have a1 := s1 m hm
      have a2 := s2 m hm
      have b1 : f m2 * (comb (g m1) n (f m1) w).dot (m.sub a) < 0 := Int.mul_neg_of_pos_of_neg f2 (by omega)
      have b2 : f m1 * (comb (-g m2) n (-f m2) w).dot (m.sub a) ≤ 0 := Int.mul_nonpos_of_nonneg_of_nonpos (Int.le_of_lt f1) a2
      omega
/-- Three points of a face, which looks out. -/
def Face (L : List Pt) (a b c : Pt) : Prop := a ∈ L ∧ b ∈ L ∧ c ∈ L ∧ (b.sub a).cross (c.sub a) ≠ Pt.O ∧ Sup L ((b.sub a).cross (c.sub a)) a
theorem along {n p q : Pt} (hp : n.dot p = 0) (hq : n.dot q = 0) : ∀ d : Pt, n.dot n * (p.cross q).dot d = (p.cross q).dot n * n.dot d := by
  have ex : n.dot n * (p.cross q).x - (p.cross q).dot n * n.x = n.dot p * (n.y * q.z - n.z * q.y) - n.dot q * (n.y * p.z - n.z * p.y) := by simp only [Pt.dot, Pt.cross]; grind
  have ey : n.dot n * (p.cross q).y - (p.cross q).dot n * n.y = n.dot p * (n.z * q.x - n.x * q.z) - n.dot q * (n.z * p.x - n.x * p.z) := by simp only [Pt.dot, Pt.cross]; grind
  have ez : n.dot n * (p.cross q).z - (p.cross q).dot n * n.z = n.dot p * (n.x * q.y - n.y * q.x) - n.dot q * (n.x * p.y - n.y * p.x) := by simp only [Pt.dot, Pt.cross]; grind
  rw [hp, hq] at ex ey ez
  simp only [Int.zero_mul, Int.sub_zero] at ex ey ez
  intro d
  generalize p.cross q = N at *
  generalize n.dot n = A at *
  generalize N.dot n = B at *
  have fx : A * N.x = B * n.x := by omega
  have fy : A * N.y = B * n.y := by omega
  have fz : A * N.z = B * n.z := by omega
  have : A * N.dot d = A * N.x * d.x + A * N.y * d.y + A * N.z * d.z := by simp only [Pt.dot]; grind
  rw [this, fx, fy, fz]
  simp only [Pt.dot]; grind
theorem cross_swap (p q : Pt) : q.cross p = (p.cross q).neg := by simp only [Pt.cross, Pt.neg, Pt.mk.injEq]; grind
theorem neg_dot (p q : Pt) : p.neg.dot q = -p.dot q := by simp only [Pt.dot, Pt.neg]; grind
theorem face_end {L : List Pt} {n a b c u : Pt} (hs : Sup L n a) (hnu : 0 < n.dot u) (ha : a ∈ L) (hb : b ∈ L) (hc : c ∈ L) (h1 : n.dot (b.sub a) = 0) (h2 : n.dot (c.sub a) = 0) (hne : (b.sub a).cross (c.sub a) ≠ Pt.O) :
    ∃ a b c, Face L a b c ∧ 0 < ((b.sub a).cross (c.sub a)).dot u := by
  have al := along h1 h2
  have hnn := dot_self_pos (ne_of_dot hnu)
  have pos : 0 < ((b.sub a).cross (c.sub a)).dot n ∨ ((b.sub a).cross (c.sub a)).dot n < 0 := by
    rcases Int.lt_trichotomy (((b.sub a).cross (c.sub a)).dot n) 0 with h | h | h
    · exact Or.inr h
    · exfalso
      have := al ((b.sub a).cross (c.sub a))
      rw [h, Int.zero_mul] at this
      have p := Int.mul_pos hnn (dot_self_pos hne)
      omega
    · exact Or.inl h
  have sgn : ∀ {A B X Y : Int}, 0 < A → A * X = B * Y → (0 < B → Y ≤ 0 → X ≤ 0) ∧ (0 < B → 0 < Y → 0 < X) ∧ (B < 0 → Y ≤ 0 → 0 ≤ X) ∧ (B < 0 → 0 < Y → X < 0) := by
    intro A B X Y hA e
    refine ⟨fun hB hY => ?_, fun hB hY => ?_, fun hB hY => ?_, fun hB hY => ?_⟩
    · refine Int.not_lt.1 fun hX => ?_
      have p1 := Int.mul_pos hA hX
      have p2 := Int.mul_nonpos_of_nonneg_of_nonpos (Int.le_of_lt hB) hY
      omega
    · refine Int.not_le.1 fun hX => ?_
      have p1 := Int.mul_nonpos_of_nonneg_of_nonpos (Int.le_of_lt hA) hX
      have p2 := Int.mul_pos hB hY
      omega
    · refine Int.not_lt.1 fun hX => ?_
      have p1 := Int.mul_neg_of_pos_of_neg hA hX
      have p2 := Int.mul_nonneg_of_nonpos_of_nonpos (Int.le_of_lt hB) hY
      omega
    · refine Int.not_le.1 fun hX => ?_
      have p1 := Int.mul_nonneg (Int.le_of_lt hA) hX
      have p2 := Int.mul_neg_of_neg_of_pos hB hY
      omega
  rcases pos with h | h
  · exact ⟨a, b, c, ⟨ha, hb, hc, hne, fun m hm => (sgn hnn (al (m.sub a))).1 h (hs m hm)⟩, (sgn hnn (al u)).2.1 h hnu⟩
  · refine ⟨a, c, b, ⟨ha, hc, hb, ?_, fun m hm => ?_⟩, ?_⟩
    · rw [cross_swap]; exact neg_ne hne
    · have := (sgn hnn (al (m.sub a))).2.2.1 h (hs m hm)
      rw [cross_swap, neg_dot]; omega
    · have := (sgn hnn (al u)).2.2.2 h hnu
      rw [cross_swap, neg_dot]; omega
theorem face_line {L : List Pt} {n a b u : Pt} (hs : Sup L n a) (hnu : 0 < n.dot u) (ha : a ∈ L) (hb : b ∈ L) (hab : b ≠ a) (h1 : n.dot (b.sub a) = 0) (ht : Thick L a) :
    ∃ a b c, Face L a b c ∧ 0 < ((b.sub a).cross (c.sub a)).dot u := by
  by_cases hc : ∃ c ∈ L, n.dot (c.sub a) = 0 ∧ (b.sub a).cross (c.sub a) ≠ Pt.O
  · obtain ⟨c, hc, h2, hne⟩ := hc
    exact face_end hs hnu ha hb hc h1 h2 hne
  · have hl : ∀ m ∈ L, n.dot (m.sub a) = 0 → (b.sub a).cross (m.sub a) = Pt.O := fun m hm e => Classical.byContradiction fun h => hc ⟨m, hm, e, h⟩
    have hd : b.sub a ≠ Pt.O := sub_ne hab
    have hn := ne_of_dot hnu
    generalize hde : b.sub a = d at *
    have hw : n.cross d ≠ Pt.O := by
      intro e
      have id : (n.cross d).dot (n.cross d) + n.dot d * n.dot d = n.dot n * d.dot d := by simp only [Pt.dot, Pt.cross]; grind
      rw [h1, e] at id
      have := Int.mul_pos (dot_self_pos hn) (dot_self_pos hd)
      simp [Pt.dot, Pt.O] at id this
      omega
    have triple : ∀ m : Pt, (n.cross d).dot m = n.dot (d.cross m) := by intro m; simp only [Pt.dot, Pt.cross]; grind
    obtain ⟨n', s', u', ⟨m, hm, hmn, hm0⟩, van⟩ := tilt (w := n.cross d) hs (fun m hm e => by rw [triple, hl m hm e]; simp [Pt.dot, Pt.O]) hw (by simp only [Pt.dot, Pt.cross]; grind) ht hnu
    have hwd : (n.cross d).dot d = 0 := by simp only [Pt.dot, Pt.cross]; grind
    have hbd : n'.dot (b.sub a) = 0 := by rw [hde]; exact van d h1 hwd
    refine face_end s' u' ha hb hm hbd hm0 ?_
    rw [hde]
    intro e
    have e1 : d.x * n.dot (m.sub a) = 0 ∧ d.y * n.dot (m.sub a) = 0 ∧ d.z * n.dot (m.sub a) = 0 := by
      simp only [Pt.cross, Pt.O, Pt.mk.injEq] at e
      obtain ⟨c1, c2, c3⟩ := e
      generalize m.sub a = q at *
      have i1 : d.x * n.dot q = q.x * n.dot d + n.y * (d.x * q.y - d.y * q.x) - n.z * (d.z * q.x - d.x * q.z) := by simp only [Pt.dot]; grind
      have i2 : d.y * n.dot q = q.y * n.dot d + n.z * (d.y * q.z - d.z * q.y) - n.x * (d.x * q.y - d.y * q.x) := by simp only [Pt.dot]; grind
      have i3 : d.z * n.dot q = q.z * n.dot d + n.x * (d.z * q.x - d.x * q.z) - n.y * (d.y * q.z - d.z * q.y) := by simp only [Pt.dot]; grind
      rw [i1, i2, i3, c1, c2, c3, h1]
      simp
    have z : n.dot (m.sub a) = 0 := by
      rcases Pt.ne_O hd with h | h | h
      · exact (Int.mul_eq_zero.1 e1.1).resolve_left h
      · exact (Int.mul_eq_zero.1 e1.2.1).resolve_left h
      · exact (Int.mul_eq_zero.1 e1.2.2).resolve_left h
    omega
theorem max_dot (u : Pt) : ∀ L : List Pt, L ≠ [] → ∃ a ∈ L, ∀ m ∈ L, u.dot m ≤ u.dot a
  | [], h => absurd rfl h
  | [p], _ => ⟨p, by simp, fun m hm => by simp at hm; subst hm; exact Int.le_refl _⟩
  | p :: q :: r, _ => by
    obtain ⟨a, ha, h⟩ := max_dot u (q :: r) (by simp)
    by_cases hp : u.dot p ≤ u.dot a
    · exact ⟨a, List.mem_cons_of_mem _ ha, fun m hm => by rw [List.mem_cons] at hm; rcases hm with rfl | hm; exact hp; exact h m hm⟩
    · exact ⟨p, by simp, fun m hm => by rw [List.mem_cons] at hm; rcases hm with rfl | hm; exact Int.le_refl _; have := h m hm; omega⟩
theorem face_out {L : List Pt} {u w : Pt} (h0 : L ≠ []) (hnf : ¬ flatAll L) (hu : u ≠ Pt.O) (hw : w ≠ Pt.O) (huw : u.dot w = 0) :
    ∃ a b c, Face L a b c ∧ 0 < ((b.sub a).cross (c.sub a)).dot u := by
  obtain ⟨a, ha, hmax⟩ := max_dot u L h0
  have ht := thick_of ha hnf
  have hs : Sup L u a := by
    intro m hm
    have := hmax m hm
    have e : u.dot (m.sub a) = u.dot m - u.dot a := by simp only [Pt.dot, Pt.sub]; grind
    omega
  have huu := dot_self_pos hu
  by_cases hb : ∃ b ∈ L, b ≠ a ∧ u.dot (b.sub a) = 0
  · obtain ⟨b, hb, hab, e⟩ := hb
    exact face_line hs huu ha hb hab e ht
  · obtain ⟨n', s', u', ⟨m, hm, hmn, hm0⟩, _⟩ := tilt (w := w) hs (fun m hm e => by
      have : m = a := Classical.byContradiction fun h => hb ⟨m, hm, h, e⟩
      subst this; simp [Pt.dot, Pt.sub]) hw huw ht huu
    refine face_line s' u' ha hm (fun e => ?_) hm0 ht
    subst e
    simp [Pt.dot, Pt.sub] at hmn
end Go.Proofs.Ytiicpdlaaklahaa
